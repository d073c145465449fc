"""foreseehall.fair: points [1], [30] and [31], and the interface's section of that name."""

import itertools
import unittest

from foreseehall.errors import NoMark, NoRoom, NoWay, NoWorld
from foreseehall.fair import fair_rooms, fair_way
from foreseehall.judging import holds
from hallcase import (
    FAR, LETTERS, WRONG_MARK_LISTS, WRONG_ROOMS, WRONG_WORLD, HallCase, along, fair_of, full, is_fair, mixed, plain, ring,
    some_of, worlds_for_fair, worlds_of, wrong_lists, wrong_worlds,
)

# Two rings, of 0, 1, 2 and of 3, 4, a step from the first to the second one, and a room 5 that only comes to 6 and stays.
HALL = (
    [0, 1, 0, 1, 0, 1, 0],
    [["a"], ["b"], [], ["a"], ["c"], ["a", "b", "c"], []],
    [[1], [2, 3], [0], [4], [3], [0, 6], [6]],
)


class FairRooms(HallCase):
    def told(self, world, rooms, marks):
        found = self.ask(fair_rooms, world, rooms, marks)
        self.same(found, fair_of(world, rooms, marks))
        return found

    def test_an_ordinary_world(self):
        for marks, rooms in [
            ([], [0, 1, 2, 3, 4, 5, 6]),
            (["a"], [0, 1, 2, 3, 4, 5]),
            (["b"], [0, 1, 2, 5]),
            (["a", "b"], [0, 1, 2, 5]),
            (["c"], [0, 1, 2, 3, 4, 5]),
            (["a", "c"], [0, 1, 2, 3, 4, 5]),
            (["b", "c"], []),
            (["a", "b", "c"], []),
            (["d"], []),
            (list(LETTERS), []),
        ]:
            self.same(self.told(HALL, list(range(7)), marks), rooms)

    def test_the_way_must_stay_in_the_told_rooms(self):
        for rooms, marks, found in [
            ([0, 1, 2], ["a"], [0, 1, 2]),
            ([0, 1], ["a"], []),
            ([0, 1], [], []),
            ([0, 1, 3, 4], ["a"], [0, 1, 3, 4]),
            ([1, 2, 3, 4, 5], [], [1, 3, 4]),
            ([5, 6], [], [5, 6]),
            ([5, 6], ["a"], []),
            ([6], [], [6]),
            ([5], [], []),
            ([2], [], []),
        ]:
            self.same(self.told(HALL, rooms, marks), found)

    def test_no_rooms_at_all(self):
        for world in (HALL, ring(1), full(24)):
            for marks in some_of("abc") + [list(LETTERS)]:
                self.same(self.told(world, [], marks), [])

    def test_rooms_from_which_no_way_stays(self):
        self.same(self.told(ring(24), list(range(23)), []), [])
        self.same(self.told(ring(24), list(range(24)), []), list(range(24)))
        self.same(self.told(ring(24), list(range(24)), ["a"]), [])
        steps = [[min(room + 1, 23)] for room in range(24)]
        world = ([0] * 24, [["a"] if room < 23 else [] for room in range(24)], steps)
        self.same(self.told(world, list(range(24)), []), list(range(24)))
        self.same(self.told(world, list(range(23)), []), [])
        # Each room of the row has the mark, but none is met again.
        self.same(self.told(world, list(range(24)), ["a"]), [])

    def test_a_mark_that_is_met_but_not_together_with_another_one(self):
        # One may go round by a or round by b, and change from a to b, but never back.
        world = ([0] * 3, [["a"], [], ["b"]], [[0, 1], [2], [2]])
        self.same(self.told(world, [0, 1, 2], ["a"]), [0])
        self.same(self.told(world, [0, 1, 2], ["b"]), [0, 1, 2])
        self.same(self.told(world, [0, 1, 2], ["a", "b"]), [])

    def test_worlds_of_one_room(self):
        for letters in some_of(LETTERS):
            world = ([0], [letters], [[0]])
            for marks in some_of(LETTERS)[::5]:
                self.same(self.told(world, [0], marks), [0] if set(marks) <= set(letters) else [])

    def test_a_ring_of_24(self):
        owners, marks, steps = ring(24)
        marks[7], marks[8], marks[23] = ["a"], ["a", "b"], ["f"]
        world = (owners, marks, steps)
        rooms = list(range(24))
        for asked in some_of("abf"):
            self.same(self.told(world, rooms, asked), rooms)
        self.same(self.told(world, rooms, ["c"]), [])
        self.same(self.told(world, rooms[1:], ["a"]), [])
        self.same(self.told(full(24), rooms[3:], list(LETTERS)), rooms[3:])

    def test_all_rooms_and_marks_in_small_worlds(self):
        for world in worlds_for_fair():
            for rooms in some_of(range(len(world[0]))):
                for marks in some_of("ab"):
                    self.same(fair_rooms(world, rooms, marks), fair_of(world, rooms, marks))

    def test_all_worlds_of_three_rooms(self):
        for world in [plain(world, "ab") for world in worlds_of(3)]:
            for rooms in ([0, 1, 2], [0, 2]):
                self.same(fair_rooms(world, rooms, ["a", "b"]), fair_of(world, rooms, ["a", "b"]))

    def test_greater_worlds(self):
        for world in [mixed(24, 1), plain(mixed(24, 2), "ab"), mixed(23, 3), mixed(12, 4), plain(mixed(9, 5), "f")]:
            size = len(world[0])
            for rooms in (list(range(size)), list(range(1, size)), list(range(0, size, 2)), list(range(size // 3, size))):
                for marks in ([], ["a"], ["f"], ["a", "b"], ["b", "d", "e"], list(LETTERS)):
                    self.told(world, rooms, marks)

    def test_without_marks_it_is_as_some_always(self):
        for world in worlds_for_fair() + [mixed(24, seed) for seed in range(4)]:
            rooms = [room for room, row in enumerate(world[1]) if "a" in row]
            self.same(fair_rooms(world, rooms, []), holds(world, ("some always", ("mark", "a"))))


class FairWay(HallCase):
    def told(self, world, rooms, marks, room):
        way = self.ask(fair_way, world, rooms, marks, room)
        front, around = way
        self.assertIsInstance(way, tuple)
        self.assertEqual(along(way, 1), [room])
        self.assertTrue(is_fair(world, rooms, marks, way))
        size = len(world[0])
        self.assertLess(len(front), size)
        self.assertLessEqual(len(around), size * (len(marks) + 1))
        return way

    def looked_at(self, world, rooms, marks):
        found = fair_of(world, rooms, marks)
        for room in range(len(world[0])):
            if room in found:
                self.told(world, rooms, marks, room)
            else:
                self.refused(NoWay, fair_way, world, rooms, marks, room)

    def test_an_ordinary_world(self):
        for rooms in (list(range(7)), [0, 1, 2], [0, 1, 3, 4], [5, 6], [2, 5], []):
            for marks in some_of("abc"):
                self.looked_at(HALL, rooms, marks)
        self.same(self.told(HALL, list(range(7)), ["c"], 5)[1] in ([3, 4], [4, 3]), True)

    def test_worlds_of_one_room(self):
        self.same(self.told(ring(1), [0], [], 0), ([], [0]))
        self.same(self.told(full(1), [0], list(LETTERS), 0)[0], [])
        self.looked_at(ring(1), [0], ["a"])
        self.looked_at(ring(1), [], [])

    def test_a_ring_of_24(self):
        owners, marks, steps = ring(24)
        marks[7], marks[8], marks[23] = ["a"], ["a", "b"], ["f"]
        rooms = list(range(24))
        for asked in some_of("abf") + [["c"], list(LETTERS)]:
            self.looked_at((owners, marks, steps), rooms, asked)
        self.looked_at((owners, marks, steps), rooms[:-1], [])

    def test_a_long_front(self):
        # A row of rooms, at whose end one stays: the front has all rooms but the last one.
        steps = [[min(room + 1, 23)] for room in range(24)]
        world = ([0] * 24, [[] for _ in range(23)] + [list(LETTERS)], steps)
        for marks in ([], ["a"], list(LETTERS)):
            way = self.told(world, list(range(24)), marks, 0)
            self.assertEqual(len(way[0]), 23)
        self.looked_at(world, list(range(24)), list(LETTERS))

    def test_a_long_ring(self):
        # A ring in which each mark is met only short of the end, and the next one asks for going round again.
        for order in (LETTERS, LETTERS[::-1], "badcfe"):
            marks = [[] for _ in range(18)] + [[letter] for letter in order]
            world = ([0] * 24, marks, [[(room + 1) % 24] for room in range(24)])
            for asked in (list(LETTERS), list("ace"), ["f"], []):
                for room in (0, 5, 17, 18, 20, 23):
                    self.told(world, list(range(24)), asked, room)

    def test_where_a_ring_at_hand_does_not_meet_all_marks(self):
        world = ([0] * 4, [["a"], [], ["b"], []], [[0, 1], [2], [3], [0, 2]])
        for marks in some_of("ab"):
            self.looked_at(world, [0, 1, 2, 3], marks)

    def test_a_mark_that_can_only_be_left_behind(self):
        world = ([0] * 3, [["a"], ["a"], ["b"]], [[1], [0, 2], [2]])
        for rooms in some_of(range(3)):
            for marks in some_of("ab"):
                self.looked_at(world, rooms, marks)

    def test_small_worlds(self):
        for world in worlds_for_fair()[::4]:
            for rooms in some_of(range(len(world[0])))[1::2]:
                for marks in some_of("ab"):
                    self.looked_at(world, rooms, marks)

    def test_greater_worlds(self):
        for world in [mixed(24, 1), plain(mixed(24, 2), "ab"), mixed(11, 4), full(24)]:
            size = len(world[0])
            for rooms in (list(range(size)), list(range(size // 3, size))):
                for marks in ([], ["a", "b"], list(LETTERS)):
                    for room in fair_of(world, rooms, marks)[::5]:
                        self.told(world, rooms, marks, room)


class Refusals(HallCase):
    def test_no_world(self):
        for wrong, world in wrong_worlds():
            with self.subTest(wrong):
                self.refused(NoWorld, fair_rooms, world, [], [])
                self.refused(NoWorld, fair_way, world, [], [], 0)

    def test_no_mark(self):
        for marks in WRONG_MARK_LISTS:
            for rooms in ([], [0, 1], [1, 0], [7]):
                self.refused(NoMark, fair_rooms, HALL, rooms, marks)
                for room in (0, 7, -1):
                    self.refused(NoMark, fair_way, HALL, rooms, marks, room)
                self.refused(NoWorld, fair_rooms, WRONG_WORLD, rooms, marks)
                self.refused(NoWorld, fair_way, WRONG_WORLD, rooms, marks, 0)

    def test_no_rooms(self):
        for world in (HALL, ring(1), ring(24)):
            for rooms in wrong_lists(len(world[0])):
                self.refused(NoRoom, fair_rooms, world, rooms, [])
                self.refused(NoRoom, fair_way, world, rooms, ["a"], 0)
                self.refused(NoRoom, fair_way, world, rooms, [], 99)
                self.refused(NoWorld, fair_rooms, WRONG_WORLD, rooms, [])

    def test_no_room(self):
        for room in WRONG_ROOMS + [7]:
            for rooms in ([], [0, 1, 2], list(range(7))):
                for marks in ([], ["a"], ["d"]):
                    self.refused(NoRoom, fair_way, HALL, rooms, marks, room)
            self.refused(NoMark, fair_way, HALL, [], ["g"], room)
            self.refused(NoWorld, fair_way, WRONG_WORLD, [], [], room)

    def test_no_way(self):
        self.refused(NoWay, fair_way, HALL, [0, 1, 2], ["a"], 3)
        self.refused(NoWay, fair_way, HALL, [0, 1], [], 0)
        self.refused(NoWay, fair_way, HALL, [], [], 6)
        self.refused(NoWay, fair_way, ring(24), list(range(24)), ["a"], 23)

    def test_a_list_that_stands_in_many_places(self):
        rooms = [0, 1]
        world = ([0, 1], [["a"], ["a"]], [rooms, rooms])
        self.same(self.ask(fair_rooms, world, rooms, ["a"]), [0, 1])
        self.assertEqual(along(self.ask(fair_way, world, rooms, ["a"], 1), 1), [1])

    def test_far_numbers(self):
        for numbers in itertools.permutations([0, FAR]):
            self.refused(NoRoom, fair_rooms, HALL, list(numbers), [])


if __name__ == "__main__":
    unittest.main()
