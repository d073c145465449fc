"""foreseehall.plans: points [1], [34] and [35], and the interface's section of that name."""

import itertools
import unittest

from foreseehall.building import handed_over
from foreseehall.errors import NoPlan, NoPlayer, NoRoom, NoWorld
from foreseehall.plans import follow, is_plan, way_by
from foreseehall.ways import is_way, short
from foreseehall.worlds import is_world
from hallcase import (
    FAR, WRONG_PLAYERS, WRONG_ROOMS, WRONG_WORLD, HallCase, full, games, great_games, is_a_plan, other_plans, ring, some_plans,
    whole_plans, worlds_of, wrong_worlds,
)

# Rooms 0, 1 and 4 are player 0's, rooms 2 and 3 player 1's.
HALL = ([0, 0, 1, 1, 0], [["a"], [], ["b", "c"], [], []], [[0, 1, 2], [2], [0, 3], [1, 4], [4]])

# Lists that are no plans of player 0 in HALL.
NO_PLANS = [
    [], [None], [0], [None] * 4, [None] * 6, [0, 2, None, None], [0, 2, None, None, 4, None], [0, 2, None, None, 4, 4],
    [3, 2, None, None, 4], [4, None, None, None, None], [None, 1, None, None, None], [None, None, None, None, 0],
    [0, 2, 0, None, 4], [0, 2, None, 1, 4], [None, None, 3, None, None], [None, None, 2, None, None], [0, 0, 0, 0, 0],
    [-1, None, None, None, None], [-5, None, None, None, None], [5, None, None, None, None], [FAR, 2, None, None, 4],
    [-FAR, 2, None, None, 4], [None, None, None, None, -1], [None, None, None, FAR, None], [None] * 120, [0] * 120,
]


def walked(world, plan, counter, room):
    """The rooms that come one behind the other, until one comes again, and its first place; None where no step is told."""
    rooms = [room]
    while True:
        there = (plan, counter)[world[0][rooms[-1]]][rooms[-1]]
        if there is None:
            return None
        if there in rooms:
            return (rooms[:rooms.index(there)], rooms[rooms.index(there):])
        rooms.append(there)


class IsPlan(HallCase):
    def test_ordinary_plans(self):
        for plan in [[0, 2, None, None, 4], [None] * 5, [1, None, None, None, None], [2, None, None, None, 4]]:
            self.assertIs(self.ask(is_plan, HALL, 0, plan), True)
        for plan in [[None, None, 0, 1, None], [None] * 5, [None, None, 3, None, None], [None, None, None, 4, None]]:
            self.assertIs(self.ask(is_plan, HALL, 1, plan), True)

    def test_lists_that_are_no_plans(self):
        for plan in NO_PLANS:
            self.assertIs(self.ask(is_plan, HALL, 0, plan), False)
        for plan in [[0, None, None, None, None], [None, None, 1, None, None], [None, None, 0, 1, 4], [None, None, 0, 3, None]]:
            self.assertIs(self.ask(is_plan, HALL, 1, plan), False)

    def test_worlds_that_are_one_players(self):
        for size in (1, 2, 24):
            steps = [(room + 1) % size for room in range(size)]
            self.assertIs(self.ask(is_plan, ring(size), 0, steps), True)
            self.assertIs(self.ask(is_plan, ring(size), 1, steps), False)
            self.assertIs(self.ask(is_plan, ring(size), 1, [None] * size), True)
            self.assertIs(self.ask(is_plan, full(size), 1, [0] * size), True)
            self.assertIs(self.ask(is_plan, full(size), 0, [0] * size), False)
            self.assertIs(self.ask(is_plan, full(size), 0, [None] * size), True)
            self.assertIs(self.ask(is_plan, full(size), 1, [0] * size + [None]), False)
            self.assertIs(self.ask(is_plan, full(size), 1, [0] * (size - 1)), False)

    def test_all_lists_in_small_worlds(self):
        for world in games()[:60]:
            size = len(world[0])
            if size < 3:
                for many in range(4):
                    for plan in itertools.product([None, -1] + list(range(size + 1)), repeat=many):
                        for player in (0, 1):
                            self.assertIs(is_plan(world, player, list(plan)), is_a_plan(world, player, list(plan)))

    def test_plans_with_one_thing_otherwise(self):
        for world in games()[::7] + [HALL]:
            for player in (0, 1):
                for plan in some_plans(world, player)[::5]:
                    self.assertIs(is_plan(world, player, plan), True)
                    for other in other_plans(plan, world):
                        self.assertIs(is_plan(world, player, other), is_a_plan(world, player, other))

    def test_refusals(self):
        for player in WRONG_PLAYERS:
            for plan in ([None] * 5, [], [0] * 5):
                self.refused(NoPlayer, is_plan, HALL, player, plan)
                self.refused(NoWorld, is_plan, WRONG_WORLD, player, plan)
        for wrong, world in wrong_worlds():
            with self.subTest(wrong):
                self.refused(NoWorld, is_plan, world, 0, [None])
                self.refused(NoWorld, is_plan, world, 1, [])


class Follow(HallCase):
    def test_ordinary_plans(self):
        owners, marks, steps = HALL
        for player, plan, told in [
            (0, [1, 2, None, None, 4], [[1], [2], [0, 3], [1, 4], [4]]),
            (0, [None] * 5, steps),
            (1, [None] * 5, steps),
            (0, [0, None, None, None, None], [[0], [2], [0, 3], [1, 4], [4]]),
            (1, [None, None, 3, None, None], [[0, 1, 2], [2], [3], [1, 4], [4]]),
            (1, [None, None, 0, 4, None], [[0, 1, 2], [2], [0], [4], [4]]),
        ]:
            self.same(self.ask(follow, HALL, player, plan), (owners, marks, told))

    def test_all_plans_in_small_worlds(self):
        for world in games()[::3]:
            owners, marks, steps = world
            for player in (0, 1):
                for plan in some_plans(world, player)[::3]:
                    told = follow(world, player, plan)
                    self.assertIs(is_world(*told), True)
                    rows = [row if there is None else [there] for row, there in zip(steps, plan)]
                    self.same(told, (owners, marks, rows))

    def test_the_edges(self):
        for world in great_games() + [ring(1), full(1)]:
            for player in (0, 1):
                plan = [row[-1] if owner == player else None for owner, row in zip(world[0], world[2])]
                rows = [row[-1:] if owner == player else row for owner, row in zip(world[0], world[2])]
                self.same(self.ask(follow, world, player, plan), (world[0], world[1], rows))
                self.same(self.ask(follow, world, player, [None] * len(plan)), world)

    def test_a_list_that_stands_in_many_places(self):
        row, marks = [0, 1], ["a"]
        world = ([0, 1], [marks, marks], [row, row])
        self.same(self.ask(follow, world, 0, [None, None]), ([0, 1], [["a"], ["a"]], [[0, 1], [0, 1]]))
        self.same(self.ask(follow, world, 1, [None, 0]), ([0, 1], [["a"], ["a"]], [[0, 1], [0]]))

    def test_refusals(self):
        for plan in NO_PLANS:
            self.refused(NoPlan, follow, HALL, 0, plan)
            self.refused(NoPlan, follow, handed_over(HALL), 1, plan)
            for player in WRONG_PLAYERS:
                self.refused(NoPlayer, follow, HALL, player, plan)
            self.refused(NoWorld, follow, WRONG_WORLD, 2, plan)
        for wrong, world in wrong_worlds():
            with self.subTest(wrong):
                self.refused(NoWorld, follow, world, 0, [None])


class WayBy(HallCase):
    def told(self, world, plan, counter, room):
        way = self.ask(way_by, world, plan, counter, room)
        self.same(way, walked(world, plan, counter, room))
        self.assertIs(is_way(world, way), True)
        rooms = way[0] + way[1]
        self.assertEqual(len(set(rooms)), len(rooms))
        self.same(short(world, way), way)
        return way

    def test_ordinary_plans(self):
        plan, counter = [1, 2, None, None, 4], [None, None, 0, 4, None]
        self.same(self.told(HALL, plan, counter, 0), ([], [0, 1, 2]))
        self.same(self.told(HALL, plan, counter, 1), ([], [1, 2, 0]))
        self.same(self.told(HALL, plan, counter, 3), ([3], [4]))
        counter = [None, None, 3, 4, None]
        self.same(self.told(HALL, plan, counter, 0), ([0, 1, 2, 3], [4]))
        counter = [None, None, 3, 1, None]
        self.same(self.told(HALL, plan, counter, 0), ([0], [1, 2, 3]))
        self.same(self.told(HALL, [0, 2, None, None, 4], counter, 0), ([], [0]))

    def test_a_room_that_is_met_without_a_step(self):
        for plan, counter, missed in [
            ([1, None, None, None, 4], [None, None, 0, 4, None], [0, 1, 2]),
            ([1, 2, None, None, None], [None, None, 3, 4, None], [0, 1, 2, 3, 4]),
            ([1, 2, None, None, 4], [None, None, 3, None, None], [0, 1, 2, 3]),
            ([1, 2, None, None, 4], [None, None, None, 4, None], [0, 1, 2]),
            ([None] * 5, [None] * 5, [0, 1, 2, 3, 4]),
            ([0, None, None, None, None], [None] * 5, [1, 2, 3, 4]),
        ]:
            for room in range(5):
                if room in missed:
                    self.refused(NoPlan, way_by, HALL, plan, counter, room)
                else:
                    self.told(HALL, plan, counter, room)

    def test_all_plans_in_small_worlds(self):
        for world in games()[::3]:
            for plan, counter in itertools.product(some_plans(world, 0)[::2], some_plans(world, 1)[::2]):
                for room in range(len(world[0])):
                    way = walked(world, plan, counter, room)
                    if way is None:
                        self.assertRaises(NoPlan, way_by, world, plan, counter, room)
                    else:
                        self.same(way_by(world, plan, counter, room), way)

    def test_whole_plans_always_lead_on(self):
        for world in games()[::8] + [HALL]:
            for plan, counter in list(itertools.product(whole_plans(world, 0), whole_plans(world, 1)))[::4]:
                for room in range(len(world[0])):
                    self.told(world, plan, counter, room)

    def test_the_edges(self):
        nothing = [None] * 24
        for room in (0, 1, 23):
            around = [(room + many) % 24 for many in range(24)]
            self.same(self.told(ring(24), [(each + 1) % 24 for each in range(24)], nothing, room), ([], around))
        late = [min(each + 1, 23) for each in range(24)]
        self.same(self.told(full(24), nothing, late, 0), (list(range(23)), [23]))
        self.same(self.told(full(24), nothing, late, 23), ([], [23]))
        self.same(self.told(full(24), nothing, late[:23] + [22], 0), (list(range(22)), [22, 23]))
        self.same(self.told(ring(1), [0], [None], 0), ([], [0]))
        self.same(self.told(full(1), [None], [0], 0), ([], [0]))
        self.refused(NoPlan, way_by, ring(1), [None], [None], 0)
        self.refused(NoPlan, way_by, ring(24), list(range(1, 24)) + [None], nothing, 0)

    def test_the_plan_is_player_0s_and_the_counterplan_player_1s(self):
        plan, counter = [1, 2, None, None, 4], [None, None, 0, 4, None]
        self.refused(NoPlan, way_by, HALL, counter, plan, 0)
        self.refused(NoPlan, way_by, HALL, plan, plan, 0)
        self.refused(NoPlan, way_by, HALL, counter, counter, 0)
        self.same(self.ask(way_by, handed_over(HALL), counter, plan, 0), ([], [0, 1, 2]))

    def test_refusals(self):
        plan, counter = [1, 2, None, None, 4], [None, None, 0, 4, None]
        for wrong in NO_PLANS:
            # Room 4 is not led to by what is wrong with them, but it is refused all the same.
            for room in (0, 4):
                self.refused(NoPlan, way_by, HALL, wrong, counter, room)
                self.refused(NoPlan, way_by, handed_over(HALL), counter, wrong, room)
                self.refused(NoPlan, way_by, HALL, wrong, wrong, room)
            for room in WRONG_ROOMS + [5]:
                self.refused(NoRoom, way_by, HALL, wrong, counter, room)
            self.refused(NoWorld, way_by, WRONG_WORLD, wrong, counter, 7)
        for room in WRONG_ROOMS + [5]:
            self.refused(NoRoom, way_by, HALL, plan, counter, room)
            self.refused(NoRoom, way_by, HALL, [None] * 5, [None] * 5, room)
            self.refused(NoWorld, way_by, WRONG_WORLD, plan, counter, room)
        for wrong, world in wrong_worlds():
            with self.subTest(wrong):
                self.refused(NoWorld, way_by, world, [None], [None], 0)


class Between(HallCase):
    def test_a_way_by_plans_is_the_only_one_in_their_worlds(self):
        for world in list(worlds_of(2)) + [HALL]:
            for plan, counter in itertools.product(whole_plans(world, 0), whole_plans(world, 1)):
                both = follow(follow(world, 0, plan), 1, counter)
                self.assertEqual({len(row) for row in both[2]}, {1})
                for room in range(len(world[0])):
                    self.assertIs(is_way(both, way_by(world, plan, counter, room)), True)


if __name__ == "__main__":
    unittest.main()
