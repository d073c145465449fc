"""foreseehall.keeping: points [1], [37] and [39], and the interface's section of that name."""

import copy
import itertools
import unittest

from foreseehall.bringing import bring
from foreseehall.building import handed_over
from foreseehall.fair import fair_rooms
from foreseehall.keeping import keep, keep_shows
from foreseehall.plans import is_plan
from hallcase import (
    FAR, HallCase, RefusalsOfTelling, brings, filled, full, games, great_games, is_a_plan, other_plans, other_ranks,
    other_rooms, ring, some_of, some_plans, some_rooms, ways_by_plans, whole_plans,
)

# Rooms 0, 1 and 4 are player 0's, rooms 2 and 3 player 1's.
HALL = ([0, 0, 1, 1, 0], [[], [], [], [], []], [[0, 1, 2], [2, 4], [0, 3], [1, 4], [4]])
# What is told of player 0 and the rooms 0, 1 and 2: from 2 and from 1 the way can be brought out.
KEPT = ([0], [0, None, None, None, None], [None, 2, 1, 0, 0], [None, None, 3, None, None])


def shows(world, player, rooms, paper):
    """Point [37], word by word."""
    kept, plan, ranks, counter = paper
    size = len(world[0])
    outside = [room for room in range(size) if room not in rooms]
    if not brings(world, 1 - player, outside, ranks, counter):
        return False
    if kept != [room for room in range(size) if ranks[room] is None] or not is_a_plan(world, player, plan):
        return False
    return all(plan[room] is not None and plan[room] in kept for room in kept if world[0][room] == player)


def stays(way, rooms):
    return set(way[0] + way[1]) <= set(rooms)


def kept_by_plans(world, player, rooms):
    """The rooms from which the player can keep the way in some rooms, by going through all plans of both."""
    return [
        room for room in range(len(world[0]))
        if any(
            all(stays(way, rooms) for way in ways_by_plans(world, player, plan, room)) for plan in whole_plans(world, player)
        )
    ]


def kept_by_rounds(world, player, rooms):
    """The same, by leaving out rooms from which it can't be kept for a step more."""
    kept, ahead = list(rooms), None
    while kept != ahead:
        ahead = kept
        asked = [any if owner == player else all for owner in world[0]]
        kept = [room for room in ahead if asked[room]([there in ahead for there in world[2][room]])]
    return kept


class Keep(HallCase):
    def told(self, world, player, rooms, asked):
        paper = self.ask(keep, world, player, rooms)
        kept, plan, ranks, counter = paper
        self.assertIsInstance(paper, tuple)
        self.same(kept, asked)
        self.assertIs(is_plan(world, player, plan), True)
        for room, there in enumerate(plan):
            self.assertIs(there is not None, world[0][room] == player and room in kept)
            self.assertTrue(there is None or there in kept)
        outside = [room for room in range(len(world[0])) if room not in rooms]
        # The ranks of the other one's bringing are the fewest steps, and its plan has no steps elsewhere.
        self.same(ranks, bring(world, 1 - player, outside)[0])
        for room, there in enumerate(counter):
            is_due = world[0][room] != player and ranks[room] is not None and ranks[room] > 0
            self.assertIs(there is not None, is_due)
        self.assertIs(shows(world, player, rooms, paper), True)
        self.assertIs(keep_shows(world, player, rooms, paper), True)
        return paper

    def test_an_ordinary_world(self):
        self.same(self.told(HALL, 0, [0, 1, 2], [0]), KEPT)
        self.told(HALL, 0, [1, 2, 3], [])
        self.told(HALL, 0, [1, 4], [1, 4])
        self.told(HALL, 0, [0, 1, 2, 3], [0])
        self.told(HALL, 1, [0, 1, 2, 3], [])
        self.told(HALL, 1, [0, 1, 3, 4], [3, 4])
        self.told(HALL, 1, [4], [4])
        self.told(HALL, 0, [1, 2, 3, 4], [1, 3, 4])

    def test_no_told_rooms_and_all_rooms_told(self):
        for world in games()[::5] + great_games():
            size = len(world[0])
            for player in (0, 1):
                self.same(self.told(world, player, [], []), ([], [None] * size, [0] * size, [None] * size))
                paper = self.told(world, player, list(range(size)), list(range(size)))
                self.same(paper[2:], ([None] * size, [None] * size))

    def test_all_plans_gone_through(self):
        for world in games()[::2]:
            for player in (0, 1):
                for rooms in some_rooms(len(world[0])):
                    self.told(world, player, rooms, kept_by_plans(world, player, rooms))

    def test_each_room_is_one_players(self):
        for world in games()[1::3]:
            for player in (0, 1):
                for rooms in some_rooms(len(world[0])):
                    self.is_one_players(world, player, rooms)

    def is_one_players(self, world, player, rooms):
        kept, plan, ranks, counter = keep(world, player, rooms)
        size = len(world[0])
        self.assertEqual(sorted(kept + [room for room in range(size) if ranks[room] is not None]), list(range(size)))
        plan, counter = filled(world, player, plan), filled(world, 1 - player, counter)
        for room in range(size):
            if room in kept:
                self.assertTrue(all(stays(way, rooms) for way in ways_by_plans(world, player, plan, room)))
            else:
                self.assertTrue(all(not stays(way, rooms) for way in ways_by_plans(world, 1 - player, counter, room)))

    def test_great_worlds(self):
        for world in great_games():
            for player in (0, 1):
                for rooms in some_rooms(len(world[0])):
                    self.told(world, player, rooms, kept_by_rounds(world, player, rooms))

    def test_a_ring_of_24(self):
        for owner, player in itertools.product((0, 1), repeat=2):
            world = ([owner] * 24,) + ring(24)[1:]
            plan = [(room + 1) % 24 if owner == player else None for room in range(24)]
            self.same(self.told(world, player, list(range(24)), list(range(24)))[1], plan)
            paper = self.told(world, player, list(range(23)), [])
            self.same(paper[2], list(range(23, -1, -1)))

    def test_worlds_that_are_one_players(self):
        for world in games()[::4]:
            size = len(world[0])
            for owner, rooms in itertools.product((0, 1), some_rooms(size)):
                alone = ([owner] * size,) + world[1:]
                # Alone, a player keeps it just where some way stays; against the other one, where all ways do.
                self.told(alone, owner, rooms, fair_rooms(alone, rooms, []))
                self.told(alone, 1 - owner, rooms, kept_by_rounds(alone, 1 - owner, rooms))

    def test_worlds_of_one_room(self):
        for world in (ring(1), full(1)):
            for player in (0, 1):
                self.told(world, player, [0], [0])
                self.told(world, player, [], [])

    def test_handed_over_it_is_the_other_ones(self):
        for world in games()[::4]:
            for player, rooms in itertools.product((0, 1), some_rooms(len(world[0]))):
                self.same(keep(handed_over(world), 1 - player, rooms), keep(world, player, rooms))


class KeepShows(HallCase):
    def looked_at(self, world, player, rooms, paper):
        answer = keep_shows(world, player, rooms, paper)
        self.assertIs(answer, shows(world, player, rooms, paper), (world, player, rooms, paper))
        if answer:
            self.assertEqual(paper[0], kept_by_rounds(world, player, rooms))
        return answer

    def answered(self, is_so, kept=KEPT[0], plan=KEPT[1], ranks=KEPT[2], counter=KEPT[3]):
        paper = copy.deepcopy((kept, plan, ranks, counter))
        self.assertIs(shows(HALL, 0, [0, 1, 2], paper), is_so)
        self.assertIs(self.ask(keep_shows, HALL, 0, [0, 1, 2], paper), is_so)

    def test_right_ones_that_are_not_as_told(self):
        for ranks in [[None, 3, 2, 0, 0], [None, FAR, FAR - 1, 0, 0], [None, 9, 1, 0, 0]]:
            self.answered(True, ranks=ranks)
        # Steps elsewhere, in each one's own rooms.
        for plan in [[0, 2, None, None, None], [0, 4, None, None, None], [0, None, None, None, 4], [0, 2, None, None, 4]]:
            self.answered(True, plan=plan)
        for counter in [[None, None, 3, 1, None], [None, None, 3, 4, None]]:
            self.answered(True, counter=counter)

    def test_kept_rooms_that_are_wrong(self):
        for kept in [[], [0, 0], [1], [0, 1], [0, 2], [0, 3], [-1, 0], [0, 5], [None], [0, None], [FAR], [-5], [0] * 120, [0, 1, 2]]:
            self.answered(False, kept=kept)

    def test_plans_that_are_wrong(self):
        for plan in [
            [], [0], [0] + [None] * 3, [0] + [None] * 5, [None] * 5, [1, None, None, None, None], [2, None, None, None, None],
            [3, None, None, None, None], [-1, None, None, None, None], [-5, None, None, None, None], [0, 0, None, None, None],
            [0, None, 0, None, None], [0, None, None, 4, None], [0, None, None, None, 0], [FAR, None, None, None, None],
            [0, -FAR, None, None, None], [0] * 120, [0, None, 3, None, None],
        ]:
            self.answered(False, plan=plan)

    def test_ranks_that_are_wrong(self):
        for ranks in [
            [], KEPT[2][:4], KEPT[2] + [0], KEPT[2] + [None], [0, 2, 1, 0, 0], [3, 2, 1, 0, 0], [None, 1, 1, 0, 0],
            [None, None, 1, 0, 0], [None, 2, None, 0, 0], [None, 2, 1, None, 0], [None, 2, 1, 0, None], [None, 2, 1, 1, 0],
            [None, 2, 0, 0, 0], [None, 2, -1, 0, 0], [None, 0, 1, 0, 0], [None] * 5, [None, 2, 1, -1, 0], [None, -FAR, 1, 0, 0],
            [None, 2, FAR, 0, 0], KEPT[2] * 24,
        ]:
            self.answered(False, ranks=ranks)

    def test_counterplans_that_are_wrong(self):
        for counter in [
            [], KEPT[3][:4], KEPT[3] + [None], [None] * 5, [None, None, 0, None, None], [None, None, 3, 0, None],
            [0, None, 3, None, None], [None, 2, 3, None, None], [None, None, 3, None, 4], [None, None, 2, None, None],
            [None, None, -2, None, None], [None, None, FAR, None, None], [3] * 5, [None, None, 3, -FAR, None], KEPT[3] * 24,
        ]:
            self.answered(False, counter=counter)

    def test_a_plan_that_goes_to_a_room_that_is_told_but_not_kept(self):
        world = ([0, 0, 1], [[], [], []], [[0, 1], [2], [2]])
        paper = keep(world, 0, [0, 1])
        self.same(paper[0], [0])
        self.assertIs(self.ask(keep_shows, world, 0, [0, 1], (paper[0], [1, None, None]) + paper[2:]), False)
        self.assertIs(self.ask(keep_shows, world, 0, [0, 1], (paper[0], [0, 2, None]) + paper[2:]), True)

    def test_other_told_rooms_and_players(self):
        for player, other in itertools.product((0, 1), repeat=2):
            for rooms, others in itertools.product(some_of(range(5)), repeat=2):
                self.looked_at(HALL, player, rooms, keep(HALL, other, others))

    def papers_beside(self, world, paper):
        kept, plan, ranks, counter = paper
        size = len(world[0])
        found = [(other, plan, ranks, counter) for other in other_rooms(kept, size)]
        found += [(kept, other, ranks, counter) for other in other_plans(plan, world)]
        found += [(kept, plan, other, counter) for other in other_ranks(ranks, size) if other is not None]
        found += [(kept, plan, ranks, other) for other in other_plans(counter, world)]
        # Ranks and kept rooms that hang together, but are wrong.
        for other in other_ranks(ranks, size):
            if other is not None:
                found.append(([room for room, rank in enumerate(other) if rank is None], plan, other, counter))
        return copy.deepcopy(found + [(kept, counter, ranks, plan)])

    def test_papers_with_one_thing_otherwise(self):
        counts = [0, 0]
        for world in games()[::7] + [HALL]:
            for player in (0, 1):
                for rooms in some_rooms(len(world[0])):
                    for paper in self.papers_beside(world, keep(world, player, rooms)):
                        counts[self.looked_at(world, player, rooms, paper)] += 1
        self.assertGreater(min(counts), 1000)

    def test_all_plans_elsewhere(self):
        for world in games()[40:60:4]:
            for player, rooms in itertools.product((0, 1), some_rooms(len(world[0]))):
                kept, plan, ranks, counter = keep(world, player, rooms)
                for other in some_plans(world, player):
                    self.looked_at(world, player, rooms, (kept, other, ranks, counter))
                for other in some_plans(world, 1 - player):
                    self.looked_at(world, player, rooms, (kept, plan, ranks, other))

    def test_what_is_handed_in_stays_as_it_is(self):
        for paper in self.papers_beside(HALL, KEPT)[::9]:
            self.assertIsInstance(self.ask(keep_shows, HALL, 0, [0, 1, 2], paper), bool)
        row = [None]
        self.assertIs(self.ask(keep_shows, ring(1), 1, [0], ([0], row, row, row)), True)


class Refusals(RefusalsOfTelling, HallCase):
    def asked(self, kind, world, player, rooms):
        self.refused(kind, keep, world, player, rooms)
        self.refused(kind, keep_shows, world, player, rooms, ([0], [0], [None], [None]))
        self.refused(kind, keep_shows, world, player, rooms, ([], [-1, FAR], [], [None]))


if __name__ == "__main__":
    unittest.main()
