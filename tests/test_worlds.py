"""foreseehall.worlds: points [1], [2] and [5], and the interface's section of that name."""

import unittest

from foreseehall.errors import NoMark, NoRoom, NoWorld
from foreseehall.worlds import before, is_world, marked, reached
from hallcase import (
    LETTERS, WRONG_MARKS, WRONG_ROOMS, WRONG_WORLD, HallCase, full, mixed, ring, some_of, worlds_of, wrong_worlds,
)

HALL = ([0, 1, 0, 1], [["a"], ["a", "c"], [], ["b", "f"]], [[1, 2], [0], [2, 3], [3]])


def shared_lists():
    """A world in which one list stands for several rooms, as an asker may have made it."""
    row, way = ["b", "e"], [0, 2]
    return ([1, 1, 0], [row, row, row], [way, way, way])


def some_worlds():
    small = [world for size in (1, 2) for world in worlds_of(size)] + list(worlds_of(3))[::9]
    great = [make(size) for make in (ring, full) for size in (1, 2, 23, 24)]
    return small + great + [mixed(size, seed) for size in (5, 11, 24) for seed in range(4)] + [HALL, shared_lists()]


def gone_to(world, room):
    """What is reached by as many steps as there are rooms at most, counted by rounds."""
    found = {room}
    for _ in world[0]:
        found = found | {there for here in found for there in world[2][here]}
    return sorted(found)


class IsWorld(HallCase):
    def is_one(self, world):
        answer = self.ask(is_world, *world)
        self.assertIsInstance(answer, bool)
        return answer

    def test_ordinary_worlds(self):
        for world in some_worlds():
            with self.subTest(world):
                self.assertIs(self.is_one(world), True)

    def test_1_room_and_24_rooms_but_not_25(self):
        for make in (ring, full):
            for size in range(1, 25):
                self.assertIs(self.is_one(make(size)), True)
            for size in (0, 25, 26, 48, 120):
                self.assertIs(self.is_one(make(size)), False)

    def test_each_choice_of_marks(self):
        for marks in some_of(LETTERS):
            self.assertIs(self.is_one(([0], [marks], [[0]])), True)

    def test_each_choice_of_steps_but_none(self):
        for steps in some_of(range(4)):
            self.assertIs(self.is_one(([0, 1, 1, 0], [[]] * 4, [[3], steps, [0], [1]])), bool(steps))

    def test_each_owner(self):
        for owner in (-(10 ** 59), -2, -1, 0, 1, 2, 3, 10 ** 59):
            self.assertIs(self.is_one(([0, owner], [[], []], [[0], [1]])), owner in (0, 1))

    def test_each_letter(self):
        for mark in list(LETTERS) + WRONG_MARKS:
            self.assertIs(self.is_one(([0, 0], [[], [mark]], [[0], [1]])), mark not in WRONG_MARKS)

    def test_each_pair_of_marks(self):
        for one in LETTERS:
            for other in LETTERS:
                self.assertIs(self.is_one(([0], [[one, other]], [[0]])), one < other)

    def test_each_pair_of_steps(self):
        for one in range(-1, 4):
            for other in range(-1, 4):
                world = ([0, 0, 0], [[], [], []], [[0], [1], [one, other]])
                self.assertIs(self.is_one(world), 0 <= one < other < 3)

    def test_wrong_worlds(self):
        for wrong, world in wrong_worlds():
            with self.subTest(wrong):
                self.assertIs(self.is_one(world), False)


class Before(HallCase):
    def test_an_ordinary_world(self):
        self.same(self.ask(before, HALL), [[1], [0], [0, 2], [2, 3]])

    def test_a_room_to_which_no_step_leads(self):
        self.same(self.ask(before, ([0, 0], [[], []], [[1], [1]])), [[], [0, 1]])

    def test_the_edges(self):
        self.same(self.ask(before, ring(1)), [[0]])
        self.same(self.ask(before, ring(24)), [[(room + 23) % 24] for room in range(24)])
        self.same(self.ask(before, full(24)), [list(range(24))] * 24)

    def test_each_world_of_some(self):
        for world in some_worlds():
            size = len(world[0])
            sources = [[room for room in range(size) if there in world[2][room]] for there in range(size)]
            self.same(self.ask(before, world), sources)

    def test_no_world(self):
        for wrong, world in wrong_worlds():
            with self.subTest(wrong):
                self.refused(NoWorld, before, world)


class Reached(HallCase):
    def test_an_ordinary_world(self):
        self.same([self.ask(reached, HALL, room) for room in range(4)], [[0, 1, 2, 3], [0, 1, 2, 3], [2, 3], [3]])

    def test_a_room_is_reached_from_itself_by_no_steps(self):
        world = ([0, 0, 0], [[], [], []], [[1], [2], [2]])
        self.same([self.ask(reached, world, room) for room in range(3)], [[0, 1, 2], [1, 2], [2]])

    def test_a_long_way_backwards(self):
        size = 24
        world = ([0] * size, [[] for _ in range(size)], [[max(room - 1, 0)] for room in range(size)])
        for room in range(size):
            self.same(self.ask(reached, world, room), list(range(room + 1)))

    def test_the_edges(self):
        self.same(self.ask(reached, ring(1), 0), [0])
        for room in (0, 12, 23):
            self.same(self.ask(reached, ring(24), room), list(range(24)))
            self.same(self.ask(reached, full(24), room), list(range(24)))

    def test_each_room_of_some_worlds(self):
        for world in some_worlds():
            for room in range(len(world[0])):
                self.same(self.ask(reached, world, room), gone_to(world, room))

    def test_no_world(self):
        for wrong, world in wrong_worlds():
            with self.subTest(wrong):
                self.refused(NoWorld, reached, world, 0)

    def test_no_room(self):
        for size in (1, 4, 24):
            for room in WRONG_ROOMS + [size, size + 1, -size, -size - 1]:
                if not 0 <= room < size:
                    self.refused(NoRoom, reached, ring(size), room)

    def test_the_world_goes_ahead_of_the_room(self):
        for room in WRONG_ROOMS:
            self.refused(NoWorld, reached, WRONG_WORLD, room)
        self.refused(NoWorld, reached, ([], [], []), 0)


class Marked(HallCase):
    def test_an_ordinary_world(self):
        told = [self.ask(marked, HALL, mark) for mark in LETTERS]
        self.same(told, [[0, 1], [3], [1], [], [], [3]])

    def test_the_edges(self):
        for mark in LETTERS:
            for size in (1, 24):
                self.same(self.ask(marked, ring(size), mark), [])
                self.same(self.ask(marked, full(size), mark), list(range(size)))

    def test_each_mark_of_some_worlds(self):
        for world in some_worlds():
            for mark in LETTERS:
                rooms = [room for room in range(len(world[0])) if mark in world[1][room]]
                self.same(self.ask(marked, world, mark), rooms)

    def test_no_world(self):
        for wrong, world in wrong_worlds():
            with self.subTest(wrong):
                self.refused(NoWorld, marked, world, "a")

    def test_no_mark(self):
        for mark in WRONG_MARKS:
            with self.subTest(mark):
                self.refused(NoMark, marked, HALL, mark)
                self.refused(NoMark, marked, full(24), mark)

    def test_the_world_goes_ahead_of_the_mark(self):
        for mark in WRONG_MARKS:
            self.refused(NoWorld, marked, WRONG_WORLD, mark)


if __name__ == "__main__":
    unittest.main()
