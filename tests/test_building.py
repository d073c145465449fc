"""foreseehall.building: points [1], [3] and [4], and the interface's section of that name."""

import itertools
import unittest

from foreseehall.building import beside, handed_over, part, renamed, together
from foreseehall.errors import NoRoom, NoWorld, TooGreat
from foreseehall.worlds import is_world
from hallcase import WRONG_ROOMS, WRONG_WORLD, HallCase, full, mixed, ring, some_of, worlds_of, wrong_worlds

LEFT = ([0, 1], [["a", "c"], []], [[0, 1], [0]])
RIGHT = ([1, 1, 0], [["b"], ["a", "d"], []], [[2], [0, 1, 2], [1]])
HALL = ([0, 1, 0, 1], [["a"], ["a", "c"], [], ["b", "f"]], [[1, 2], [0], [2, 3], [3]])


def some_worlds():
    shared_marks, shared_steps = ["a"], [0, 1]
    shared = ([0, 1], [shared_marks, shared_marks], [shared_steps, shared_steps])
    small = [world for size in (1, 2) for world in worlds_of(size)]
    return small + [LEFT, RIGHT, HALL, shared, ring(3), full(3), mixed(4, 1)]


def some_pairs():
    for one in some_worlds():
        for other in some_worlds():
            yield one, other


class Building(HallCase):
    def build(self, function, *handed):
        world = self.ask(function, *handed)
        self.assertIsInstance(world, tuple)
        self.assertEqual(len(world), 3)
        self.assertIs(is_world(*world), True)
        return world

    def no_world_on_either_side(self, function):
        for wrong, world in wrong_worlds():
            with self.subTest(wrong):
                self.refused(NoWorld, function, world, LEFT)
                self.refused(NoWorld, function, LEFT, world)
                self.refused(NoWorld, function, world, world)

    def no_world_goes_ahead_of_too_great(self, function):
        for great in (full(24), ring(25)):
            self.refused(NoWorld, function, great, WRONG_WORLD)
            self.refused(NoWorld, function, WRONG_WORLD, great)
        self.refused(NoWorld, function, ring(25), full(1))
        self.refused(NoWorld, function, full(24), ring(25))


class Beside(Building):
    def test_ordinary_worlds(self):
        owners = [0, 1, 1, 1, 0]
        marks = [["a", "c"], [], ["b"], ["a", "d"], []]
        self.same(self.build(beside, LEFT, RIGHT), (owners, marks, [[0, 1], [0], [4], [2, 3, 4], [3]]))
        owners = [1, 1, 0, 0, 1]
        marks = [["b"], ["a", "d"], [], ["a", "c"], []]
        self.same(self.build(beside, RIGHT, LEFT), (owners, marks, [[2], [0, 1, 2], [1], [3, 4], [3]]))

    def test_some_pairs(self):
        for one, other in some_pairs():
            size = len(one[0])
            steps = [list(row) for row in one[2]] + [[size + there for there in row] for row in other[2]]
            self.same(self.build(beside, one, other), (one[0] + other[0], one[1] + other[1], steps))

    def test_a_world_beside_itself(self):
        steps = [[0, 1], [0], [2, 3], [2]]
        self.same(self.build(beside, LEFT, LEFT), (LEFT[0] * 2, LEFT[1] * 2, steps))

    def test_24_rooms_are_not_too_many(self):
        for size in range(1, 24):
            world = self.build(beside, full(size), ring(24 - size))
            self.same(world[0], [1] * size + [0] * (24 - size))
            self.same(world[2][size - 1], list(range(size)))
            self.same(world[2][23], [size])

    def test_25_rooms_and_more_are_too_many(self):
        for size in range(1, 25):
            self.refused(TooGreat, beside, full(size), ring(25 - size))
        for one, other in ((24, 24), (2, 24), (24, 2), (13, 13)):
            self.refused(TooGreat, beside, ring(one), full(other))

    def test_no_world(self):
        self.no_world_on_either_side(beside)

    def test_no_world_ahead_of_too_great(self):
        self.no_world_goes_ahead_of_too_great(beside)


class Together(Building):
    def test_ordinary_worlds(self):
        owners = [0, 0, 0, 1, 1, 1]
        marks = [["a", "b", "c"], ["a", "c", "d"], ["a", "c"], ["b"], ["a", "d"], []]
        steps = [[2, 5], [0, 1, 2, 3, 4, 5], [1, 4], [2], [0, 1, 2], [1]]
        self.same(self.build(together, LEFT, RIGHT), (owners, marks, steps))

    def test_the_other_way_round(self):
        owners = [1, 1, 1, 1, 0, 0]
        marks = [["a", "b", "c"], ["b"], ["a", "c", "d"], ["a", "d"], ["a", "c"], []]
        steps = [[4, 5], [4], [0, 1, 2, 3, 4, 5], [0, 2, 4], [2, 3], [2]]
        self.same(self.build(together, RIGHT, LEFT), (owners, marks, steps))

    def test_some_pairs(self):
        for one, other in some_pairs():
            rooms = list(itertools.product(range(len(one[0])), range(len(other[0]))))
            owners = [one[0][first] for first, _ in rooms]
            marks = [sorted({*one[1][first], *other[1][second]}) for first, second in rooms]
            steps = [
                [rooms.index(there) for there in itertools.product(one[2][first], other[2][second])]
                for first, second in rooms
            ]
            self.same(self.build(together, one, other), (owners, marks, steps))

    def test_with_a_world_of_one_room_a_world_stays(self):
        for world in some_worlds():
            self.same(self.build(together, world, ring(1)), world)
            owners = [0] * len(world[0])
            self.same(self.build(together, ring(1), world), (owners, world[1], world[2]))

    def test_24_rooms_are_not_too_many(self):
        for one, other in ((1, 24), (2, 12), (3, 8), (4, 6), (6, 4), (8, 3), (12, 2), (24, 1)):
            self.same(self.build(together, full(one), full(other)), full(24))
            world = self.build(together, ring(one), full(other))
            self.same(world[2][23], list(range(other)))

    def test_more_than_24_rooms_are_too_many(self):
        for one in range(1, 25):
            other = 24 // one + 1
            if other <= 24:
                self.refused(TooGreat, together, ring(one), full(other))
                self.refused(TooGreat, together, full(other), ring(one))
        for one, other in ((5, 5), (13, 2), (2, 13), (24, 24), (12, 12)):
            self.refused(TooGreat, together, full(one), ring(other))

    def test_no_world(self):
        self.no_world_on_either_side(together)

    def test_no_world_ahead_of_too_great(self):
        self.no_world_goes_ahead_of_too_great(together)


def part_by_pairs(world, rooms):
    """The part, or None where a room of it has no step, told over by all pairs of its rooms."""
    steps = [[new for new, there in enumerate(rooms) if there in world[2][room]] for room in rooms]
    if not rooms or not all(steps):
        return None
    return ([world[0][room] for room in rooms], [world[1][room] for room in rooms], steps)


class Part(Building):
    def test_an_ordinary_world(self):
        self.same(self.build(part, HALL, [0, 1]), ([0, 1], [["a"], ["a", "c"]], [[1], [0]]))
        self.same(self.build(part, HALL, [0, 2, 3]), ([0, 0, 1], [["a"], [], ["b", "f"]], [[1], [1, 2], [2]]))
        self.same(self.build(part, HALL, [2, 3]), ([0, 1], [[], ["b", "f"]], [[0, 1], [1]]))

    def test_one_room(self):
        self.same(self.build(part, HALL, [3]), ([1], [["b", "f"]], [[0]]))
        self.same(self.build(part, HALL, [2]), ([0], [[]], [[0]]))
        self.same(self.build(part, full(24), [23]), full(1))
        self.same(self.build(part, ring(1), [0]), ring(1))

    def test_all_rooms(self):
        for world in some_worlds() + [ring(24), full(24), mixed(24, 3)]:
            self.same(self.build(part, world, list(range(len(world[0])))), world)

    def test_each_choice_of_rooms(self):
        for world in some_worlds() + list(worlds_of(3))[::7] + [mixed(6, seed) for seed in range(3)]:
            for rooms in some_of(range(len(world[0]))):
                told = part_by_pairs(world, rooms)
                if told is None:
                    self.refused(NoRoom, part, world, rooms)
                else:
                    self.same(self.build(part, world, rooms), told)

    def test_no_rooms(self):
        self.refused(NoRoom, part, HALL, [])
        self.refused(NoRoom, part, ring(1), [])

    def test_a_room_without_a_step(self):
        self.refused(NoRoom, part, HALL, [0])
        self.refused(NoRoom, part, HALL, [1, 2])
        self.refused(NoRoom, part, HALL, [1, 3])
        self.refused(NoRoom, part, ring(24), list(range(23)))
        self.refused(NoRoom, part, ring(24), list(range(1, 24)))

    def test_numbers_that_are_no_rooms(self):
        for room in WRONG_ROOMS + [4, -3, -4]:
            for rooms in ([room], sorted([room, 3]), sorted([room, 0, 1, 2, 3])):
                self.refused(NoRoom, part, HALL, rooms)
        self.refused(NoRoom, part, full(24), list(range(25)))
        self.refused(NoRoom, part, full(24), list(range(-1, 24)))

    def test_rooms_that_do_not_rise(self):
        for rooms in ([3, 2], [3, 3], [2, 3, 3], [0, 2, 1, 3], [0, 1, 0], [3, 2, 1, 0], [0, 1, 1, 2, 3]):
            self.refused(NoRoom, part, HALL, rooms)
            self.refused(NoRoom, part, full(4), rooms)
        self.refused(NoRoom, part, full(24), [0] * 120)

    def test_no_world(self):
        for wrong, world in wrong_worlds():
            with self.subTest(wrong):
                self.refused(NoWorld, part, world, [0])

    def test_the_world_goes_ahead_of_the_rooms(self):
        for rooms in ([], [1], [-1], [0, 0], [10 ** 59]):
            self.refused(NoWorld, part, WRONG_WORLD, rooms)


class Renamed(Building):
    def test_an_ordinary_world(self):
        # Room 0 is the one that was 2, room 1 the one that was 3, room 2 the one that was 0, room 3 the one that was 1.
        marks = [[], ["b", "f"], ["a"], ["a", "c"]]
        self.same(self.build(renamed, HALL, [2, 3, 0, 1]), ([0, 1, 0, 1], marks, [[0, 1], [1], [0, 3], [2]]))

    def test_which_of_the_two_turns_is_meant(self):
        # An order and its turning back differ here: the room 0 is the one that was 1.
        world = ([1, 0, 0], [["a"], ["b"], ["c"]], [[1], [2], [0, 2]])
        told = ([0, 0, 1], [["b"], ["c"], ["a"]], [[1], [1, 2], [0]])
        self.same(self.build(renamed, world, [1, 2, 0]), told)

    def test_each_order(self):
        for world in some_worlds() + [mixed(4, seed) for seed in range(3)]:
            size = len(world[0])
            for order in itertools.permutations(range(size)):
                steps = [[new for new in range(size) if order[new] in world[2][room]] for room in order]
                told = ([world[0][room] for room in order], [world[1][room] for room in order], steps)
                self.same(self.build(renamed, world, list(order)), told)

    def test_an_order_that_leaves_all_as_it_was(self):
        for world in some_worlds() + [ring(24), full(24), mixed(24, 5)]:
            self.same(self.build(renamed, world, list(range(len(world[0])))), world)

    def test_24_rooms_turned_round(self):
        told = self.build(renamed, ring(24), list(range(23, -1, -1)))
        self.same(told[2], [[(room + 23) % 24] for room in range(24)])
        self.same(self.build(renamed, full(24), list(range(23, -1, -1))), full(24))

    def test_no_order(self):
        wrong = [
            [], [0], [0, 1, 2], [1, 2, 3], [0, 1, 2, 2], [0, 0, 1, 2], [0, 1, 2, 3, 3], [0, 1, 2, 3, 4], [1, 2, 3, 4],
            [0, 1, 2, 4], [-1, 0, 1, 2], [0, 1, 2, -1], [-4, -3, -2, -1], [0, 1, 2, 3, -1], [3, 3, 3, 3], [0, 1, 3, 1],
            [0, 1, 2, 10 ** 59], [0, 1, 2, -(10 ** 59)], [3, 2, 1, 0, 0], list(range(120)), [0] * 120,
        ]
        for order in wrong:
            with self.subTest(order):
                self.refused(NoRoom, renamed, HALL, order)
                self.refused(NoRoom, renamed, full(4), order)

    def test_no_world(self):
        for wrong, world in wrong_worlds():
            with self.subTest(wrong):
                self.refused(NoWorld, renamed, world, list(range(len(world[0]))))

    def test_the_world_goes_ahead_of_the_order(self):
        for order in ([], [1], [-1], [0, 0], [10 ** 59]):
            self.refused(NoWorld, renamed, WRONG_WORLD, order)


class HandedOver(Building):
    def test_an_ordinary_world(self):
        self.same(self.build(handed_over, HALL), ([1, 0, 1, 0], HALL[1], HALL[2]))

    def test_each_world_of_some(self):
        for world in some_worlds() + [ring(1), full(1), ring(24), full(24), mixed(24, 2)]:
            owners = [1 if owner == 0 else 0 for owner in world[0]]
            over = self.build(handed_over, world)
            self.same(over, (owners, world[1], world[2]))
            self.same(self.build(handed_over, over), world)

    def test_no_world(self):
        for wrong, world in wrong_worlds():
            with self.subTest(wrong):
                self.refused(NoWorld, handed_over, world)


if __name__ == "__main__":
    unittest.main()
