"""foreseehall.again: points [1], [38] and [39], and the interface's section of that name."""

import copy
import itertools
import unittest

from foreseehall.again import again, again_shows
from foreseehall.bringing import bring
from foreseehall.building import handed_over, renamed
from foreseehall.fair import fair_rooms
from foreseehall.keeping import keep
from foreseehall.plans import is_plan
from hallcase import (
    FAR, HallCase, RefusalsOfTelling, filled, full, games, great_games, is_a_plan, mixed, other_plans, other_ranks,
    ring, some_of, some_plans, some_rooms, ways_by_plans, whole_plans,
)

# Rooms 0, 1 and 4 are player 0's, rooms 2, 3 and 5 player 1's, which may stay at 2 and at 5.
HALL = ([0, 0, 1, 1, 0, 1], [[], [], [], [], [], []], [[1, 2], [0, 3], [0, 2], [1], [4], [4, 5]])


def leads_down(turns, here, there):
    """Point [38]: to an earlier turn, or in the same turn to a lower rank, or from rank 0 to rank 0."""
    if turns[there] is None:
        return False
    (turn, rank), (later, other) = turns[here], turns[there]
    return later < turn or later == turn and (other < rank or rank == other == 0)


def shows(world, player, rooms, paper):
    """Point [38], word by word, what a plan is by point [34]."""
    ranks, plan, turns, counter = paper
    owners, _, steps = world
    size = len(owners)
    if len(ranks) != size or len(turns) != size:
        return False
    if not is_a_plan(world, player, plan) or not is_a_plan(world, 1 - player, counter):
        return False
    for room in range(size):
        rank, turn = ranks[room], turns[room]
        if (rank is None) == (turn is None):
            return False
        if rank is not None:
            if rank < 0 or (rank == 0) != (room in rooms):
                return False
            ahead = [plan[room]] if owners[room] == player else steps[room]
            if None in ahead or any(ranks[there] is None for there in ahead):
                return False
            if rank > 0 and any(ranks[there] >= rank for there in ahead):
                return False
        else:
            if min(turn) < 0 or turn[1] == 0 and room in rooms:
                return False
            ahead = [counter[room]] if owners[room] != player else steps[room]
            if None in ahead or not all(leads_down(turns, room, there) for there in ahead):
                return False
    return True


def meets(way, rooms):
    """Whether a way is in some rooms endlessly often: just if its ring has one of them."""
    return bool(set(way[1]) & set(rooms))


def won_by_plans(world, player, rooms):
    """The rooms from which the player can, by going through all plans of both."""
    return [
        room for room in range(len(world[0]))
        if any(all(meets(way, rooms) for way in ways_by_plans(world, player, plan, room)) for plan in whole_plans(world, player))
    ]


def won_by_rounds(world, player, rooms):
    """The same, by leaving out told rooms from which the player can't bring the way to a told one once more."""
    goal, ahead = list(rooms), None
    while goal != ahead:
        ahead = goal
        ranks = bring(world, player, ahead)[0]
        asked = [any if owner == player else all for owner in world[0]]
        goal = [room for room in ahead if asked[room]([ranks[there] is not None for there in world[2][room]])]
    return [room for room, rank in enumerate(bring(world, player, goal)[0]) if rank is not None]


def ladder(many):
    """A world with its told rooms in which each turn hangs on the one ahead of it.

    Of each told room player 1 goes down a rung, and there player 0 may stay, or go to the told room below.
    """
    owners, steps, told = [0], [[0]], []
    for rung in range(many):
        below = 2 * rung
        owners += [1, 0]
        steps += [[below], [below + 1, below + 2]]
        told.append(below + 1)
    return (owners, [[] for _ in owners], steps), told


class Again(HallCase):
    def told(self, world, player, rooms, asked):
        paper = self.ask(again, world, player, rooms)
        ranks, plan, turns, counter = paper
        self.assertIsInstance(paper, tuple)
        self.same([room for room, rank in enumerate(ranks) if rank is not None], asked)
        self.same([room for room, turn in enumerate(turns) if turn is None], asked)
        self.assertTrue(all(turn is None or isinstance(turn, tuple) and len(turn) == 2 for turn in turns))
        # They are the fewest steps to a told room from which it can go on so.
        self.same(ranks, bring(world, player, [room for room in rooms if room in asked])[0])
        for owner, some, is_ranked in ((player, plan, True), (1 - player, counter, False)):
            self.assertIs(is_plan(world, owner, some), True)
            for room, there in enumerate(some):
                self.assertIs(there is not None, world[0][room] == owner and (room in asked) == is_ranked)
        self.assertIs(shows(world, player, rooms, paper), True)
        self.assertIs(again_shows(world, player, rooms, paper), True)
        return paper

    def test_an_ordinary_world(self):
        self.told(HALL, 0, [1], [0, 1, 3])
        self.told(HALL, 0, [0, 1], [0, 1, 3])
        self.told(HALL, 1, [1], [])
        self.told(HALL, 1, [2], [2])
        self.told(HALL, 1, [0, 2], [2])
        self.told(HALL, 0, [4], [4])
        self.told(HALL, 1, [4, 5], [4, 5])
        self.told(HALL, 0, [4, 5], [4, 5])
        self.told(HALL, 1, [5], [5])
        self.told(HALL, 0, [5], [])

    def test_a_told_room_that_is_met_only_once(self):
        world = ([0, 0], [[], []], [[1], [1]])
        for player in (0, 1):
            self.same(self.told(world, player, [0], [])[2], [(0, 1), (0, 0)])
            self.told(world, player, [1], [0, 1])

    def test_no_told_rooms_and_all_rooms_told(self):
        for world in games()[::5] + great_games():
            size = len(world[0])
            for player in (0, 1):
                ranks, plan, turns, counter = self.told(world, player, [], [])
                self.same((ranks, plan), ([None] * size, [None] * size))
                self.assertTrue(all(turn[1] == 0 for turn in turns))
                ranks, plan, turns, counter = self.told(world, player, list(range(size)), list(range(size)))
                self.same((ranks, turns, counter), ([0] * size, [None] * size, [None] * size))

    def test_all_plans_gone_through(self):
        for world in games()[::2]:
            for player in (0, 1):
                for rooms in some_rooms(len(world[0])):
                    self.told(world, player, rooms, won_by_plans(world, player, rooms))

    def test_each_room_is_one_players(self):
        for world in games()[1::3]:
            for player in (0, 1):
                for rooms in some_rooms(len(world[0])):
                    self.is_one_players(world, player, rooms)

    def is_one_players(self, world, player, rooms):
        ranks, plan, turns, counter = again(world, player, rooms)
        plan, counter = filled(world, player, plan), filled(world, 1 - player, counter)
        for room in range(len(world[0])):
            self.assertIs(ranks[room] is None, turns[room] is not None)
            if ranks[room] is not None:
                self.assertTrue(all(meets(way, rooms) for way in ways_by_plans(world, player, plan, room)))
            else:
                self.assertTrue(all(not meets(way, rooms) for way in ways_by_plans(world, 1 - player, counter, room)))

    def test_great_worlds(self):
        for world in great_games():
            for player in (0, 1):
                for rooms in some_rooms(len(world[0])):
                    self.told(world, player, rooms, won_by_rounds(world, player, rooms))

    def test_many_turns(self):
        for many in (0, 1, 2, 5, 11):
            world, rooms = ladder(many)
            turns = self.told(world, 0, rooms, [])[2]
            # However the turns are told, each rung must be later than the one below.
            for rung in range(many):
                self.assertGreater(turns[2 * rung + 2][0], turns[2 * rung][0])
            size = len(world[0])
            order = list(range(size))[::-1]
            self.told(renamed(world, order), 0, [size - 1 - room for room in rooms[::-1]], [])
            self.told(world, 1, rooms, [])
            self.told(world, 0, rooms[1:], [])
            self.told(world, 0, [0] + rooms, list(range(size)))

    def test_a_later_turn(self):
        # From 3 the player would go round by the told room 2, but from there the other one brings it out to 0.
        world = ([0, 1, 1, 0], [[], [], [], []], [[0], [0, 2], [1, 3], [2, 3]])
        paper = self.told(world, 0, [2], [])
        self.assertEqual(paper[2][0][0], 0)
        world = ([1, 0, 1, 0], [[], [], [], []], [[0], [1, 2], [0, 3], [2]])
        self.told(world, 0, [1], [1])
        self.told(world, 0, [3], [])

    def test_steps_to_earlier_turns_count_as_gone(self):
        # The told room 3 is player 0's: one step leads to the first turn and the other one to a later one.
        world = ([0, 1, 0, 0], [[], [], [], []], [[0], [0], [1, 2], [0, 2]])
        self.told(world, 0, [1, 3], [])
        self.told(world, 0, [3], [])
        self.told(world, 0, [1, 2, 3], [2, 3])
        world = ([1, 0, 1, 1], [[], [], [], []], [[0], [0], [1, 2], [0, 2]])
        self.told(handed_over(world), 0, [1, 3], [])

    def test_many_worlds(self):
        for size, seed in itertools.product((6, 8, 11), range(25)):
            world = mixed(size, seed)
            for player, rooms in itertools.product((0, 1), some_rooms(size)):
                paper = again(world, player, rooms)
                won = [room for room, rank in enumerate(paper[0]) if rank is not None]
                self.assertEqual(won, won_by_rounds(world, player, rooms))
                self.assertTrue(shows(world, player, rooms, paper) and again_shows(world, player, rooms, paper))

    def test_turns_one_behind_the_other(self):
        # Turns are told from 0 on, without gaps.
        found = 0
        for world in games() + great_games()[7:]:
            for player, rooms in itertools.product((0, 1), some_rooms(len(world[0]))):
                turns = [turn[0] for turn in again(world, player, rooms)[2] if turn is not None]
                self.assertEqual(sorted(set(turns)), list(range(len(set(turns)))))
                found = max([found] + turns)
        self.assertGreater(found, 0)

    def test_a_ring_of_24(self):
        for owner, player in itertools.product((0, 1), repeat=2):
            world = ([owner] * 24,) + ring(24)[1:]
            steps = [(room + 1) % 24 for room in range(24)]
            plan = steps if owner == player else [None] * 24
            ranks, own, turns, counter = self.told(world, player, [0], list(range(24)))
            self.same((own, turns, counter), (plan, [None] * 24, [None] * 24))
            self.assertEqual(ranks, [0] + list(range(23, 0, -1)))
            ranks, own, turns, counter = self.told(world, player, [], [])
            self.same(counter, steps if owner != player else [None] * 24)

    def test_worlds_that_are_one_players(self):
        for world in games()[::4] + [great_games()[7]]:
            size = len(world[0])
            for owner, rooms in itertools.product((0, 1), some_rooms(size)):
                marks = [["a"] if room in rooms else ["b"] for room in range(size)]
                alone = ([owner] * size, marks, world[2])
                whole = list(range(size))
                # Alone, a player can just where a fair way begins; the other one can't where one stays away in the end.
                self.told(alone, owner, rooms, fair_rooms(alone, whole, ["a"]))
                away = fair_rooms(alone, [room for room in whole if room not in rooms], [])
                lost = [room for room, rank in enumerate(bring(alone, owner, away)[0]) if rank is not None]
                self.told(alone, 1 - owner, rooms, [room for room in whole if room not in lost])

    def test_worlds_of_one_room(self):
        for world in (ring(1), full(1)):
            for player in (0, 1):
                own = [0] if world[0][0] == player else [None]
                other = [None] if world[0][0] == player else [0]
                self.same(self.told(world, player, [0], [0]), ([0], own, [None], [None]))
                self.same(self.told(world, player, [], []), ([None], [None], [(0, 0)], other))

    def test_handed_over_it_is_the_other_ones(self):
        for world in games()[::4]:
            for player, rooms in itertools.product((0, 1), some_rooms(len(world[0]))):
                self.same(again(handed_over(world), 1 - player, rooms), again(world, player, rooms))

    def test_where_it_can_be_kept_it_is_met_again(self):
        for world in games()[::3] + great_games():
            for player, rooms in itertools.product((0, 1), some_rooms(len(world[0]))):
                ranks = again(world, player, rooms)[0]
                brought = bring(world, player, rooms)[0]
                self.assertTrue(all(ranks[room] is not None for room in keep(world, player, rooms)[0]))
                self.assertTrue(all(brought[room] is not None for room, rank in enumerate(ranks) if rank is not None))


# A right paper of player 0 and the told room 1, in HALL without the step from 0 to 1.
RANKS = [None, 0, None, 1, None, None]
PLAN = [None, 3, None, None, None, None]
TURNS = [(0, 1), None, (0, 0), None, (0, 0), (0, 0)]
COUNTER = [None, None, 2, None, None, 5]


class AgainShows(HallCase):
    def looked_at(self, world, player, rooms, paper):
        answer = again_shows(world, player, rooms, paper)
        self.assertIs(answer, shows(world, player, rooms, paper), (world, player, rooms, paper))
        if answer:
            won = won_by_rounds(world, player, rooms)
            self.assertEqual([room for room, rank in enumerate(paper[0]) if rank is not None], won)
        return answer

    def answered(self, is_so, world, rooms, paper, player=0):
        paper = copy.deepcopy(paper)
        self.assertIs(shows(world, player, rooms, paper), is_so, paper)
        self.assertIs(self.ask(again_shows, world, player, rooms, paper), is_so)

    def of_hall(self, is_so, ranks=RANKS, plan=PLAN, turns=TURNS, counter=COUNTER):
        world = (HALL[0], HALL[1], [[2]] + HALL[2][1:])
        self.answered(is_so, copy.deepcopy(world), [1], (ranks, plan, turns, counter))

    def test_right_ones_that_are_not_as_told(self):
        self.of_hall(True)
        for ranks in [[None, 0, None, 7, None, None], [None, 0, None, FAR, None, None]]:
            self.of_hall(True, ranks=ranks)
        for turns in [
            [(0, 7), None, (0, 0), None, (0, 0), (0, 0)],
            [(5, 0), None, (4, 0), None, (9, 0), (FAR, 0)],
            [(5, FAR), None, (3, 0), None, (2, 0), (3, 0)],
            [(3, 1), None, (3, 0), None, (2, 0), (2, 0)],
            [(1, 0), None, (0, 0), None, (0, 0), (7, 0)],
        ]:
            self.of_hall(True, turns=turns)
        # Steps elsewhere, in each one's own rooms.
        for plan in [[2, 3, None, None, None, None], [None, 3, None, None, 4, None], [2, 3, None, None, 4, None]]:
            self.of_hall(True, plan=plan)
        self.of_hall(True, counter=[None, None, 2, 1, None, 5])
        self.of_hall(True, counter=[None, None, 2, None, None, 4])

    def test_ranks_that_are_wrong(self):
        for ranks in [
            [], RANKS[:5], RANKS + [None], RANKS + [0], [None] * 6, [0] * 6, [None, 1, None, 2, None, None],
            [None, 0, None, 0, None, None], [None, 0, None, None, None, None], [None, None, None, 1, None, None],
            [None, 0, None, -1, None, None], [None, -1, None, 1, None, None], [0, 0, None, 1, None, None],
            [2, 0, None, 1, None, None], [None, 0, None, 1, 0, None], [None, 0, None, -FAR, None, None], [None, FAR, None, 1, None, None],
            [None, 2, None, 1, None, None], RANKS * 20,
        ]:
            self.of_hall(False, ranks=ranks)

    def test_plans_that_are_wrong(self):
        for plan in [
            [], PLAN[:5], PLAN + [None], [None] * 6, [None, 0, None, None, None, None], [None, 1, None, None, None, None],
            [None, 3, 0, None, None, None], [None, 3, None, 1, None, None], [1, 3, None, None, None, None],
            [None, 3, None, None, 5, None], [None, -3, None, None, None, None], [None, FAR, None, None, None, None],
            [None, 3, None, None, None, 4], [-1, 3, None, None, None, None], PLAN * 20,
        ]:
            self.of_hall(False, plan=plan)

    def test_turns_that_are_wrong(self):
        for turns in [
            [], TURNS[:5], TURNS + [None], TURNS + [(0, 0)], [None] * 6, [(0, 0)] * 6,
            [None, None, (0, 0), None, (0, 0), (0, 0)], [(0, 1), None, None, None, (0, 0), (0, 0)],
            [(0, 1), (0, 0), (0, 0), None, (0, 0), (0, 0)], [(0, 1), (0, 1), (0, 0), None, (0, 0), (0, 0)],
            [(0, 1), None, (0, 1), None, (0, 0), (0, 0)], [(0, 1), None, (0, 2), None, (0, 0), (0, 0)],
            [(0, 1), None, (1, 0), None, (0, 0), (0, 0)], [(0, 0), None, (1, 0), None, (0, 0), (0, 0)],
            [(0, 1), None, (0, 0), None, (0, 1), (0, 0)], [(0, 1), None, (0, 0), None, (0, 0), (0, -1)],
            [(0, 1), None, (0, 0), None, (-1, 0), (0, 0)], [(0, -1), None, (0, 0), None, (0, 0), (0, 0)],
            [(-1, 1), None, (-1, 0), None, (0, 0), (0, 0)], [(0, 1), None, (0, -1), None, (0, 0), (0, 0)],
            [(0, 1), None, (0, 0), (0, 0), (0, 0), (0, 0)], [(0, 1), None, (-FAR, 0), None, (0, 0), (0, 0)],
            [(0, 1), None, (0, FAR), None, (0, 0), (0, 0)], [(0, 1), None, (FAR, 0), None, (0, 0), (0, 0)], TURNS * 20,
        ]:
            self.of_hall(False, turns=turns)

    def test_counterplans_that_are_wrong(self):
        for counter in [
            [], COUNTER[:5], COUNTER + [None], [None] * 6, [None, None, 0, None, None, 5], [None, None, None, None, None, 5],
            [None, None, 2, None, None, None], [None, None, 1, None, None, 5], [2, None, 2, None, None, 5],
            [None, 3, 2, None, None, 5], [None, None, 2, None, 4, 5], [None, None, 2, None, None, 3], [None, None, 2, 3, None, 5],
            [None, None, -4, None, None, 5], [None, None, 2, None, None, FAR], [None, None, 2, -FAR, None, 5], COUNTER * 20,
        ]:
            self.of_hall(False, counter=counter)

    def test_from_rank_0_of_one_turn_to_rank_0_of_a_later_one_does_not_lead_down(self):
        # Else the way would go round by the told room 1, from turn to turn.
        world = ([1, 1, 1], [[], [], []], [[1], [2], [0]])
        for turns in ([(1, 0), (0, 1), (0, 0)], [(1, 0), (0, 5), (0, 0)], [(0, 0), (0, 1), (0, 0)]):
            self.answered(False, world, [1], ([None] * 3, [None] * 3, turns, [1, 2, 0]))

    def test_a_told_room_may_have_a_rank_above_0_or_none_of_a_turn(self):
        world = ([0, 1], [[], []], [[1], [1]])
        for turn in [(0, 1), (1, 1), (4, 9), (FAR, FAR)]:
            self.answered(True, world, [0], ([None] * 2, [None] * 2, [turn, (0, 0)], [None, 1]))
        for turn in [(0, 0), (1, 0), (9, 0)]:
            self.answered(False, world, [0], ([None] * 2, [None] * 2, [turn, (0, 0)], [None, 1]))
            self.answered(True, world, [], ([None] * 2, [None] * 2, [turn, (0, 0)], [None, 1]))

    def test_rank_0_may_lead_to_any_rank(self):
        world = ([0, 1, 0], [[], [], []], [[1], [2], [0]])
        for ranks in ([0, 2, 1], [0, 9, 4], [0, FAR, 1]):
            self.answered(True, world, [0], (ranks, [1, None, 0], [None] * 3, [None] * 3))
            self.answered(True, world, [0], (ranks, [1, None, 0], [None] * 3, [None, 2, None]))
        for ranks in ([0, 1, 2], [0, 2, 2], [1, 3, 2], [0, 0, 1]):
            self.answered(False, world, [0], (ranks, [1, None, 0], [None] * 3, [None] * 3))

    def test_all_steps_of_the_other_one_from_rank_0_lead_to_ranks(self):
        world = ([1, 0], [[], []], [[0, 1], [1]])
        self.answered(False, world, [0], ([0, None], [None, None], [None, (0, 0)], [None, None]))
        self.answered(True, world, [0], ([None, None], [None, None], [(0, 1), (0, 0)], [1, None]))
        self.answered(True, world, [0], ([None, None], [None, None], [(1, 5), (0, 0)], [1, None]))

    def test_other_told_rooms_and_players(self):
        for player, other in itertools.product((0, 1), repeat=2):
            for rooms, others in itertools.product(some_of(range(6))[::3], repeat=2):
                self.looked_at(HALL, player, rooms, again(HALL, other, others))

    def papers_beside(self, world, paper):
        ranks, plan, turns, counter = paper
        size = len(world[0])
        found = [(other, plan, turns, counter) for other in other_ranks(ranks, size) if other is not None]
        found += [(ranks, other, turns, counter) for other in other_plans(plan, world)]
        found += [(ranks, plan, other, counter) for other in self.other_turns(turns)]
        found += [(ranks, plan, turns, other) for other in other_plans(counter, world)]
        # A room that is made the other one's, so that each has still one of both.
        for room in range(size):
            for rank, turn in [(None, (0, 0)), (None, (3, 1)), (0, None), (5, None)]:
                moved = ranks[:room] + [rank] + ranks[room + 1:]
                found.append((moved, plan, turns[:room] + [turn] + turns[room + 1:], counter))
        return copy.deepcopy(found + [(ranks, counter, turns, plan)])

    def other_turns(self, turns):
        size = len(turns)
        found = [[], turns[1:], turns[:-1], turns + [None], turns + [(0, 0)], [None] * size, [(0, 0)] * size, turns[::-1]]
        found += [[turn and (turn[0] + 1, turn[1] * 3) for turn in turns], [turn and turn[::-1] for turn in turns]]
        for room, turn in enumerate(turns):
            near = [] if turn is None else [(turn[0] + a, turn[1] + b) for a in (-1, 0, 1) for b in (-1, 0, 1)]
            others = near + [None, (0, 0), (1, 0), (0, 1), (9, 9), (FAR, 0), (0, FAR), (-1, 0), (0, -1), (-FAR, -FAR)]
            found += [turns[:room] + [other] + turns[room + 1:] for other in others]
        return found

    def test_papers_with_one_thing_otherwise(self):
        counts = [0, 0]
        for world in games()[::7] + [HALL, ladder(3)[0]]:
            for player in (0, 1):
                for rooms in some_rooms(len(world[0])):
                    for paper in self.papers_beside(world, again(world, player, rooms)):
                        counts[self.looked_at(world, player, rooms, paper)] += 1
        self.assertGreater(min(counts), 1000)

    def test_all_plans_elsewhere(self):
        for world in games()[40:60:4]:
            for player, rooms in itertools.product((0, 1), some_rooms(len(world[0]))):
                ranks, plan, turns, counter = again(world, player, rooms)
                for other in some_plans(world, player):
                    self.looked_at(world, player, rooms, (ranks, other, turns, counter))
                for other in some_plans(world, 1 - player):
                    self.looked_at(world, player, rooms, (ranks, plan, turns, other))

    def test_all_papers_of_the_smallest_worlds(self):
        counts = [0, 0]
        entries = [(None, turn) for turn in [(0, 0), (0, 1), (1, 0), (1, 1)]] + [(rank, None) for rank in (0, 1, 2)]
        for world in games()[2:38:5]:
            for two in itertools.product(entries + [(None, None), (0, (0, 0))], repeat=2):
                ranks, turns = [each[0] for each in two], [each[1] for each in two]
                for player, rooms in itertools.product((0, 1), some_of([0, 1])):
                    for plan, counter in itertools.product(some_plans(world, player), some_plans(world, 1 - player)):
                        counts[self.looked_at(world, player, rooms, (ranks, plan, turns, counter))] += 1
        self.assertGreater(min(counts), 100)

    def test_what_is_handed_in_stays_as_it_is(self):
        for paper in self.papers_beside(HALL, again(HALL, 0, [1]))[::9]:
            self.assertIsInstance(self.ask(again_shows, HALL, 0, [1], paper), bool)
        row = [None]
        self.assertIs(self.ask(again_shows, ring(1), 0, [0], ([0], [0], row, row)), True)
        self.assertIs(self.ask(again_shows, ring(1), 0, [], (row, row, [(0, 0)], row)), True)


class Refusals(RefusalsOfTelling, HallCase):
    def asked(self, kind, world, player, rooms):
        self.refused(kind, again, world, player, rooms)
        self.refused(kind, again_shows, world, player, rooms, ([0], [0], [None], [None]))
        self.refused(kind, again_shows, world, player, rooms, ([], [-1, FAR], [(0, 0)], [None]))


if __name__ == "__main__":
    unittest.main()
