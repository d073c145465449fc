"""foreseehall.bringing: points [1] and [36], and the interface's section of that name."""

import copy
import itertools
import unittest

from foreseehall.bringing import bring, bring_shows
from foreseehall.building import handed_over
from foreseehall.plans import is_plan
from hallcase import (
    FAR, HallCase, RefusalsOfTelling, brings, filled, full, games, great_games, other_plans, other_ranks, other_rooms,
    ring, some_of, some_plans, some_rooms, ways_by_plans, whole_plans,
)

# Rooms 0, 1 and 4 are player 0's, rooms 2 and 3 player 1's.
HALL = ([0, 0, 1, 1, 0], [[], [], [], [], []], [[0, 1, 2], [2, 4], [0, 3], [1, 4], [4]])


def steps_until(way, rooms):
    """After how many steps a way is first in one of some rooms, None where it never is."""
    return next((place for place, room in enumerate(way[0] + way[1]) if room in rooms), None)


def fewest_by_plans(world, player, rooms):
    """Ranks found by going through all plans of both."""
    found = []
    for room in range(len(world[0])):
        longest = []
        for plan in whole_plans(world, player):
            many = [steps_until(way, rooms) for way in ways_by_plans(world, player, plan, room)]
            longest += [] if None in many else [max(many)]
        found.append(min(longest, default=None))
    return found


def fewest_by_rounds(world, player, rooms):
    """Ranks found by asking for each number of steps whether it is enough."""
    owners, _, steps = world
    found = [0 if room in rooms else None for room in range(len(owners))]
    for many in range(1, len(owners) + 1):
        enough = [rank is not None for rank in found]
        for room, owner in enumerate(owners):
            asked = any if owner == player else all
            if not enough[room] and asked([enough[there] for there in steps[room]]):
                found[room] = many
    return found


class Bring(HallCase):
    def told(self, world, player, rooms, asked):
        answer = self.ask(bring, world, player, rooms)
        ranks, plan = answer
        self.assertIsInstance(answer, tuple)
        self.same(ranks, asked)
        self.assertIs(is_plan(world, player, plan), True)
        for room, there in enumerate(plan):
            is_due = world[0][room] == player and ranks[room] is not None and ranks[room] > 0
            self.assertIs(there is not None, is_due)
            self.assertTrue(there is None or ranks[there] is not None and ranks[there] < ranks[room])
        self.assertIs(brings(world, player, rooms, ranks, plan), True)
        self.assertIs(bring_shows(world, player, rooms, ranks, plan), True)
        return answer

    def test_an_ordinary_world(self):
        self.same(self.told(HALL, 0, [4], [2, 1, 3, 2, 0])[1], [1, 4, None, None, None])
        self.told(HALL, 1, [4], [None, 3, 2, 1, 0])
        self.told(HALL, 0, [3], [None, None, None, 0, None])
        self.told(HALL, 1, [3], [None, None, 1, 0, None])
        self.told(HALL, 1, [2, 3], [None, None, 0, 0, None])
        self.told(HALL, 1, [0, 4], [0, 2, 1, 1, 0])
        self.told(HALL, 0, [0], [0, None, None, None, None])

    def test_the_other_one_may_take_the_longest_way(self):
        # From 0, player 1's, one step or three lead to 3.
        world = ([1, 1, 1, 0], [[], [], [], []], [[1, 3], [2], [3], [3]])
        self.told(world, 0, [3], [3, 2, 1, 0])
        self.told(world, 1, [3], [1, 2, 1, 0])

    def test_no_told_rooms_and_all_rooms_told(self):
        for world in games()[::5] + great_games():
            size = len(world[0])
            for player in (0, 1):
                self.same(self.told(world, player, [], [None] * size), ([None] * size, [None] * size))
                self.same(self.told(world, player, list(range(size)), [0] * size), ([0] * size, [None] * size))

    def test_all_plans_gone_through(self):
        for world in games()[::2]:
            for player in (0, 1):
                for rooms in some_rooms(len(world[0])):
                    self.told(world, player, rooms, fewest_by_plans(world, player, rooms))

    def test_the_plan_brings_it_within_its_ranks(self):
        for world in games()[1::3]:
            for player in (0, 1):
                for rooms in some_rooms(len(world[0])):
                    self.brought(world, player, rooms)

    def brought(self, world, player, rooms):
        ranks, plan = bring(world, player, rooms)
        whole = filled(world, player, plan)
        for room, rank in enumerate(ranks):
            many = [steps_until(way, rooms) for way in ways_by_plans(world, player, whole, room)]
            self.assertEqual(rank, max(many) if rank is not None else None)
            self.assertIs(rank is None, None in many)

    def test_the_other_one_can_keep_it_away_from_where_it_cannot_be_brought(self):
        for world in games()[::3]:
            for player in (0, 1):
                for rooms in some_rooms(len(world[0])):
                    ranks = bring(world, player, rooms)[0]
                    for room in range(len(world[0])):
                        away = any(
                            all(steps_until(way, rooms) is None for way in ways_by_plans(world, 1 - player, counter, room))
                            for counter in whole_plans(world, 1 - player)
                        )
                        self.assertIs(away, ranks[room] is None)

    def test_great_worlds(self):
        for world in great_games():
            for player in (0, 1):
                for rooms in some_rooms(len(world[0])):
                    self.told(world, player, rooms, fewest_by_rounds(world, player, rooms))

    def test_a_ring_of_24(self):
        for owner, player in itertools.product((0, 1), (0, 1)):
            world = ([owner] * 24,) + ring(24)[1:]
            plan = [None] + [(room + 1) % 24 for room in range(1, 24)] if owner == player else [None] * 24
            ranks = [0] + list(range(23, 0, -1))
            self.same(self.told(world, player, [0], ranks), (ranks, plan))

    def test_worlds_that_are_one_players(self):
        rows = [sorted({max(room - 1, 0), min(room + 1, 23)}) for room in range(24)]
        for owner in (0, 1):
            world = ([owner] * 24, [[] for _ in range(24)], rows)
            self.told(world, owner, [11], [abs(room - 11) for room in range(24)])
            self.told(world, 1 - owner, [11], [0 if room == 11 else None for room in range(24)])
            self.told(world, 1 - owner, list(range(1, 23)), [None] + [0] * 22 + [None])

    def test_worlds_of_one_room(self):
        for world in (ring(1), full(1)):
            for player in (0, 1):
                self.told(world, player, [0], [0])
                self.told(world, player, [], [None])

    def test_handed_over_it_is_the_other_ones(self):
        for world in games()[::4]:
            for player in (0, 1):
                for rooms in some_rooms(len(world[0])):
                    self.same(bring(handed_over(world), 1 - player, rooms), bring(world, player, rooms))


class BringShows(HallCase):
    def looked_at(self, world, player, rooms, ranks, plan):
        answer = bring_shows(world, player, rooms, ranks, plan)
        self.assertIs(answer, brings(world, player, rooms, ranks, plan), (world, player, rooms, ranks, plan))
        if answer:
            fewest = fewest_by_rounds(world, player, rooms)
            self.assertEqual([rank is None for rank in ranks], [rank is None for rank in fewest])
        return answer

    def answered(self, is_so, ranks, plan, rooms=(4,), player=0):
        self.assertIs(brings(HALL, player, list(rooms), ranks, plan), is_so)
        self.assertIs(self.ask(bring_shows, HALL, player, list(rooms), ranks, plan), is_so)

    def test_right_ones_that_are_not_as_told(self):
        for ranks in [[2, 1, 3, 2, 0], [7, 1, 9, 8, 0], [7, 6, 9, 8, 0], [FAR, FAR - 1, FAR + 1, FAR, 0], [2, 1, 30, 2, 0]]:
            # Steps in a told room of the player's own do no harm.
            self.answered(True, ranks, [1, 4, None, None, None])
            self.answered(True, ranks, [1, 4, None, None, 4])
        self.answered(True, [None, None, 1, 0, None], [None, None, 3, 4, None], rooms=[3], player=1)
        self.answered(True, [None, None, 8, 0, None], [None, None, 3, None, None], rooms=[3], player=1)
        for there in (None, 0, 1, 2):
            self.answered(True, [None, None, None, 0, None], [there, 4, None, None, None], rooms=[3])

    def test_ranks_that_are_wrong(self):
        plan = [1, 4, None, None, None]
        for ranks in [
            [], [2, 1, 3, 2], [2, 1, 3, 2, 0, 0], [2, 1, 3, 2, 0, None], [None] * 5, [0] * 5, [None, None, None, None, 0],
            [1, 1, 3, 2, 0], [2, 2, 3, 2, 0], [2, 1, 2, 2, 0], [2, 1, 3, 1, 0], [3, 1, 3, 2, 0], [2, 1, 3, 2, 1], [2, 1, 3, 2, None],
            [None, 1, 3, 2, 0], [2, None, 3, 2, 0], [2, 1, None, 2, 0], [2, 1, 3, None, 0], [0, 1, 3, 2, 0], [2, 0, 3, 2, 0],
            [2, -1, 3, 2, 0], [2, 1, 3, 2, -1], [-1, -2, 3, 2, 0], [2, 1, -FAR, 2, 0], [3, 2, 4, 3, 1], [2, 1, 3, FAR, 0],
            [2, 1, 3, 2, 0] * 24, [2, 1, 3, 2, 0, 0, 0],
        ]:
            self.answered(False, ranks, plan)

    def test_plans_that_are_wrong(self):
        ranks = [2, 1, 3, 2, 0]
        for plan in [
            [], [1, 4, None, None], [1, 4, None, None, None, None], [None] * 5, [None, 4, None, None, None],
            [1, None, None, None, None], [0, 4, None, None, None], [2, 4, None, None, None], [1, 2, None, None, None],
            [3, 4, None, None, None], [4, 4, None, None, None], [1, 4, 0, None, None], [1, 4, None, 4, None], [1, 4, None, 1, None],
            [1, 4, None, None, 0], [1, 4, None, None, -1], [1, -1, None, None, None], [1, FAR, None, None, None],
            [1, -FAR, None, None, None], [1, 5, None, None, None], [-4, 4, None, None, None], [1, 4, None, None, None] * 24,
        ]:
            self.answered(False, ranks, plan)
        self.answered(True, ranks, [1, 4, None, None, None])

    def test_ranks_that_count_on_one_another(self):
        # In a ring each room counts on the next one, and none is told.
        self.assertIs(self.ask(bring_shows, ring(3), 0, [], [2, 1, 3], [1, 2, 0]), False)
        self.assertIs(self.ask(bring_shows, ring(3), 1, [], [3, 2, 1], [None] * 3), False)
        self.assertIs(self.ask(bring_shows, ring(3), 0, [], [None] * 3, [1, 2, 0]), True)

    def test_papers_of_other_rooms_and_players(self):
        for player, other in itertools.product((0, 1), repeat=2):
            for rooms, others in itertools.product(some_of(range(5)), repeat=2):
                ranks, plan = bring(HALL, other, others)
                self.looked_at(HALL, player, rooms, ranks, plan)

    def test_papers_with_one_thing_otherwise(self):
        counts = [0, 0]
        for world in games()[::7] + [HALL]:
            for player in (0, 1):
                for rooms in some_rooms(len(world[0])):
                    for ranks, plan in self.papers_beside(world, *bring(world, player, rooms)):
                        counts[self.looked_at(world, player, rooms, ranks, plan)] += 1
        self.assertGreater(min(counts), 1000)

    def papers_beside(self, world, ranks, plan):
        found = [(other, plan) for other in other_ranks(ranks, len(ranks)) if other is not None]
        return copy.deepcopy(found + [(ranks, other) for other in other_plans(plan, world)])

    def test_other_told_rooms(self):
        for world in games()[::9] + [HALL]:
            size = len(world[0])
            for rooms in some_rooms(size):
                ranks, plan = bring(world, 0, rooms)
                for others in other_rooms(rooms, size):
                    if others in some_of(range(size)):
                        self.looked_at(world, 0, others, ranks, plan)

    def test_all_papers_of_the_smallest_worlds(self):
        counts = [0, 0]
        for world in games()[2:38:3]:
            for ranks in itertools.product([None, -1, 0, 1, 2], repeat=2):
                for plan in itertools.product([None, 0, 1], repeat=2):
                    for player, rooms in itertools.product((0, 1), some_of([0, 1])):
                        counts[self.looked_at(world, player, rooms, list(ranks), list(plan))] += 1
        self.assertGreater(min(counts), 50)

    def test_all_plans_elsewhere(self):
        for world in games()[40:60:4]:
            for player, rooms in itertools.product((0, 1), some_rooms(len(world[0]))):
                ranks = bring(world, player, rooms)[0]
                for plan in some_plans(world, player):
                    self.looked_at(world, player, rooms, ranks, plan)

    def test_what_is_handed_in_stays_as_it_is(self):
        for ranks, plan in self.papers_beside(HALL, *bring(HALL, 0, [4]))[::5]:
            self.assertIsInstance(self.ask(bring_shows, HALL, 0, [4], ranks, plan), bool)
        row = [0, 0]
        self.assertIs(self.ask(bring_shows, ([0, 0], [[], []], [[0, 1], [0, 1]]), 0, [0, 1], row, row), True)


class Refusals(RefusalsOfTelling, HallCase):
    def asked(self, kind, world, player, rooms):
        self.refused(kind, bring, world, player, rooms)
        self.refused(kind, bring_shows, world, player, rooms, [0], [None])
        self.refused(kind, bring_shows, world, player, rooms, [], [-1, FAR])


if __name__ == "__main__":
    unittest.main()
