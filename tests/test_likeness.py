"""foreseehall.likeness: points [1], [24] and [25], and the interface's section of that name."""

import itertools
import unittest

from foreseehall.errors import NoRoom, NoWorld
from foreseehall.judging import holds
from foreseehall.likeness import alike, are_alike_by, classes, least_world
from foreseehall.worlds import is_world
from hallcase import (
    ONE_PART, TWO_PARTS, WRONG_ROOMS, WRONG_WORLD, YES, A, B, HallCase, all_alike, full, mixed, mixed_sentence, plain,
    ring, sentences_of, some_of, worlds_of, wrong_worlds,
)

# Rooms 0 and 3 are alike but for their owners, and so are 1 and 2; 4 looks like 0 and 3, but may stay.
HALL = ([0, 1, 1, 1, 0], [["a"], ["b"], ["b"], ["a"], ["a"]], [[1, 2], [0], [3], [2], [1, 4]])


def shows_likeness(world, pairs, owned):
    """Point [24], word by word."""
    owners, marks, steps = world
    for one, other in pairs:
        if marks[one] != marks[other] or owned and owners[one] != owners[other]:
            return False
        if not all(any((here, there) in pairs for there in steps[other]) for here in steps[one]):
            return False
        if not all(any((here, there) in pairs for here in steps[one]) for there in steps[other]):
            return False
    return True


def classes_of(world, owned):
    pairs = all_alike(world, owned)
    size = len(world[0])
    found = [[other for other in range(size) if (room, other) in pairs] for room in range(size)]
    return [group for room, group in enumerate(found) if group[0] == room]


def some_worlds():
    small = [world for size in (1, 2) for world in worlds_of(size)] + list(worlds_of(3))[::7]
    few = [plain(world) for world in list(worlds_of(3))[::5] + [mixed(size, seed) for size in (4, 6, 9) for seed in range(6)]]
    bare = [plain(mixed(size, seed), "") for size in (5, 12) for seed in range(2)]
    great = [make(size) for make in (ring, full) for size in (1, 2, 23, 24)] + [plain(mixed(24, seed)) for seed in range(4)]
    return small + few + bare + great + [HALL]


class Classes(HallCase):
    def test_an_ordinary_world(self):
        self.same(self.ask(classes, HALL, False), [[0, 3], [1, 2], [4]])
        self.same(self.ask(classes, HALL, True), [[0], [1], [2], [3], [4]])

    def test_owners_count_only_where_they_are_asked_for(self):
        world = ([0, 1, 0], [[], [], []], [[1], [2], [0]])
        self.same(self.ask(classes, world, False), [[0, 1, 2]])
        self.same(self.ask(classes, world, True), [[0], [1], [2]])
        world = ([0, 1, 0, 1], [[], [], [], []], [[1], [2], [3], [0]])
        self.same(self.ask(classes, world, True), [[0, 2], [1, 3]])

    def test_marks_count(self):
        world = ([0, 0, 0], [["a"], ["a", "b"], ["a"]], [[0], [1], [2]])
        self.same(self.ask(classes, world, False), [[0, 2], [1]])

    def test_how_many_steps_lead_to_a_class_does_not_count(self):
        world = ([0] * 4, [[], [], ["a"], ["a"]], [[2], [2, 3], [2], [2, 3]])
        self.same(self.ask(classes, world, True), [[0, 1], [2, 3]])

    def test_each_side_must_have_its_step(self):
        # Room 1 can do all that room 0 can, and one thing more.
        world = ([0] * 4, [[], [], ["a"], ["b"]], [[2], [2, 3], [2], [3]])
        self.same(self.ask(classes, world, False), [[0], [1], [2], [3]])

    def test_the_edges(self):
        for owned in (False, True):
            self.same(self.ask(classes, ring(1), owned), [[0]])
            self.same(self.ask(classes, ring(24), owned), [list(range(24))])
            self.same(self.ask(classes, full(24), owned), [list(range(24))])
            owners, marks, steps = ring(24)
            marks[5] = ["c"]
            self.same(self.ask(classes, (owners, marks, steps), owned), [[room] for room in range(24)])
            marks[17] = ["c"]
            self.same(self.ask(classes, (owners, marks, steps), owned), [[room, room + 12] for room in range(12)])

    def test_a_difference_far_away(self):
        steps = [[min(room + 1, 23)] for room in range(24)]
        world = ([0] * 23 + [1], [[] for _ in range(24)], steps)
        self.same(self.ask(classes, world, False), [list(range(24))])
        self.same(self.ask(classes, world, True), [[room] for room in range(24)])

    def test_some_worlds(self):
        for world in some_worlds():
            for owned in (False, True):
                self.same(self.ask(classes, world, owned), classes_of(world, owned))

    def test_all_choices_of_pairs_in_the_smallest_worlds(self):
        for world in [plain(world) for world in list(worlds_of(2)) + list(worlds_of(3))[::57]]:
            for owned in (False, True):
                size = len(world[0])
                choices = some_of(itertools.product(range(size), repeat=2))
                shown = {pair for pairs in choices if shows_likeness(world, pairs, owned) for pair in pairs}
                self.assertEqual(shown, all_alike(world, owned))

    def test_no_world(self):
        for wrong, world in wrong_worlds():
            with self.subTest(wrong):
                self.refused(NoWorld, classes, world, False)
                self.refused(NoWorld, classes, world, True)


class LeastWorld(HallCase):
    def told(self, world, owned):
        least, numbers = self.ask(least_world, world, owned)
        self.assertIsInstance(least, tuple)
        self.assertIs(is_world(*least), True)
        return least, numbers

    def test_an_ordinary_world(self):
        least = ([0, 1, 0], [["a"], ["b"], ["a"]], [[1], [0], [1, 2]])
        self.same(self.told(HALL, False), (least, [0, 1, 1, 0, 2]))
        self.same(self.told(HALL, True), (HALL, [0, 1, 2, 3, 4]))

    def test_the_least_room_gives_the_owner(self):
        for owners in itertools.product([0, 1], repeat=3):
            world = (list(owners), [["f"], ["f"], ["f"]], [[1], [2], [0]])
            self.same(self.told(world, False), (([owners[0]], [["f"]], [[0]]), [0, 0, 0]))

    def test_the_edges(self):
        for owned in (False, True):
            self.same(self.told(ring(1), owned), (ring(1), [0]))
            self.same(self.told(ring(24), owned), (ring(1), [0] * 24))
            self.same(self.told(full(24), owned), (full(1), [0] * 24))
            owners, marks, steps = ring(24)
            marks[23] = ["a"]
            self.same(self.told((owners, marks, steps), owned), ((owners, marks, steps), list(range(24))))

    def test_some_worlds(self):
        for world in some_worlds():
            for owned in (False, True):
                groups = classes_of(world, owned)
                numbers = [[number for number, rooms in enumerate(groups) if room in rooms][0] for room in range(len(world[0]))]
                steps = [sorted({numbers[there] for room in rooms for there in world[2][room]}) for rooms in groups]
                firsts = [rooms[0] for rooms in groups]
                least = ([world[0][room] for room in firsts], [world[1][room] for room in firsts], steps)
                self.same(self.told(world, owned), (least, numbers))

    def test_in_the_least_world_no_two_rooms_are_alike(self):
        for world in some_worlds():
            for owned in (False, True):
                least = least_world(world, owned)[0]
                size = len(least[0])
                self.same(self.told(least, owned), (least, list(range(size))))

    def test_sentences_hold_in_it_as_in_the_world(self):
        sentences = sentences_of(2, [YES, A]) + [(word, A, B) for word in TWO_PARTS] + [mixed_sentence(9, k) for k in range(9)]
        sentences += [(word, ("not", A)) for word in ONE_PART]
        for world in some_worlds()[::5]:
            for owned in (False, True):
                least, numbers = least_world(world, owned)
                for sentence in sentences:
                    rooms = [room for room, number in enumerate(numbers) if number in holds(least, sentence)]
                    self.same(rooms, holds(world, sentence))

    def test_lists_that_are_handed_in_twice(self):
        row, way = ["a"], [0, 1]
        self.same(self.told(([0, 1], [row, row], [way, way]), False), (([0], [["a"]], [[0]]), [0, 0]))
        self.same(self.told(([0, 1], [row, row], [way, way]), True), (([0, 1], [["a"], ["a"]], [[0, 1], [0, 1]]), [0, 1]))

    def test_no_world(self):
        for wrong, world in wrong_worlds():
            with self.subTest(wrong):
                self.refused(NoWorld, least_world, world, False)
                self.refused(NoWorld, least_world, world, True)


class Alike(HallCase):
    def told(self, world, one, other, owned):
        """The pairs, looked at by the words of point [24], or None."""
        pairs = self.ask(alike, world, one, other, owned)
        if pairs is not None:
            self.assertIsInstance(pairs, list)
            self.assertTrue(all(isinstance(pair, tuple) and len(pair) == 2 for pair in pairs))
            self.assertIn((one, other), pairs)
            self.assertTrue(shows_likeness(world, pairs, owned), (world, pairs))
            self.assertEqual(len(pairs), len(set(pairs)))
            self.assertIs(self.ask(are_alike_by, world, pairs, owned), True)
        return pairs is not None

    def test_an_ordinary_world(self):
        for one in range(5):
            for other in range(5):
                is_same = one == other or {one, other} in ({0, 3}, {1, 2})
                self.assertEqual(self.told(HALL, one, other, False), is_same)
                self.assertEqual(self.told(HALL, one, other, True), one == other)

    def test_some_worlds(self):
        for world in some_worlds():
            size = len(world[0])
            for owned in (False, True):
                pairs = all_alike(world, owned)
                rooms = range(size) if size < 7 else range(0, size, 7)
                for one, other in itertools.product(rooms, repeat=2):
                    self.assertEqual(self.told(world, one, other, owned), (one, other) in pairs)

    def test_the_order_of_the_two_counts(self):
        self.assertIn((0, 3), self.ask(alike, HALL, 0, 3, False))
        self.assertIn((3, 0), self.ask(alike, HALL, 3, 0, False))

    def test_the_edges(self):
        for owned in (False, True):
            self.same(self.ask(alike, ring(1), 0, 0, owned), [(0, 0)])
            for one, other in [(0, 0), (0, 1), (23, 0), (7, 19)]:
                self.assertTrue(self.told(ring(24), one, other, owned))
                self.assertTrue(self.told(full(24), one, other, owned))

    def test_no_world(self):
        for wrong, world in wrong_worlds():
            with self.subTest(wrong):
                self.refused(NoWorld, alike, world, 0, 0, False)
                self.refused(NoWorld, alike, world, 0, 0, True)

    def test_no_room(self):
        for size in (1, 4, 24):
            for room in WRONG_ROOMS + [size, size + 1, -size, -size - 1]:
                if not 0 <= room < size:
                    for owned in (False, True):
                        self.refused(NoRoom, alike, ring(size), room, 0, owned)
                        self.refused(NoRoom, alike, ring(size), 0, room, owned)
                        self.refused(NoRoom, alike, ring(size), room, room, owned)

    def test_the_first_room_goes_ahead_of_the_second(self):
        for one, other in itertools.product([0, 3, -1, 99], repeat=2):
            if (one, other) != (0, 0):
                self.refused(NoRoom, alike, ring(3), one, other, False)

    def test_the_world_goes_ahead_of_the_rooms(self):
        for room in WRONG_ROOMS:
            self.refused(NoWorld, alike, WRONG_WORLD, room, 0, False)
            self.refused(NoWorld, alike, WRONG_WORLD, 0, room, True)


class AreAlikeBy(HallCase):
    def told(self, world, pairs, owned):
        answer = self.ask(are_alike_by, world, pairs, owned)
        self.assertIsInstance(answer, bool)
        return answer

    def test_no_pairs_at_all(self):
        for world in (HALL, ring(1), full(24)):
            for owned in (False, True):
                self.assertIs(self.told(world, [], owned), True)

    def test_ordinary_pairs(self):
        whole = [(0, 3), (1, 2), (2, 2), (3, 3)]
        self.assertIs(self.told(HALL, whole, False), True)
        self.assertIs(self.told(HALL, whole, True), False)
        for place in range(3):
            self.assertIs(self.told(HALL, whole[:place] + whole[place + 1:], False), False)
        for other in [(0, 1), (0, 4), (4, 3), (4, 4)]:
            self.assertIs(self.told(HALL, whole + [other], False), False)

    def test_the_order_within_a_pair_counts(self):
        world = ([0] * 3, [["a"], ["a"], ["b"]], [[2], [2], [2]])
        self.assertIs(self.told(world, [(0, 1), (2, 2)], False), True)
        world = ([0] * 4, [["a"], ["a"], ["b"], ["b"]], [[2], [3], [2], [3]])
        self.assertIs(self.told(world, [(0, 1), (2, 3)], False), True)
        self.assertIs(self.told(world, [(0, 1), (3, 2)], False), False)
        self.assertIs(self.told(world, [(1, 0), (3, 2)], False), True)

    def test_each_side_must_have_its_step(self):
        world = ([0] * 4, [[], [], ["a"], ["b"]], [[2], [2, 3], [2], [3]])
        for pair in [(0, 1), (1, 0)]:
            self.assertIs(self.told(world, [pair, (2, 2), (3, 3)], False), False)
        self.assertIs(self.told(world, [(0, 0), (1, 1), (2, 2), (3, 3)], True), True)

    def test_the_order_of_pairs_and_pairs_twice_have_no_weight(self):
        whole = [(0, 3), (1, 2), (2, 2), (3, 3)]
        for pairs in itertools.permutations(whole):
            self.assertIs(self.told(HALL, list(pairs), False), True)
        self.assertIs(self.told(HALL, whole * 30, False), True)
        self.assertIs(self.told(HALL, [(4, 4)] * 120, False), False)

    def test_owners(self):
        world = ([0, 1], [[], []], [[0], [1]])
        self.assertIs(self.told(world, [(0, 1)], False), True)
        self.assertIs(self.told(world, [(0, 1)], True), False)
        self.assertIs(self.told(world, [(0, 0), (1, 1)], True), True)
        # The owners of the rooms to which steps lead are asked for as well.
        world = ([0, 0, 0, 1], [[], [], [], []], [[2], [3], [2], [3]])
        self.assertIs(self.told(world, [(0, 1), (2, 3)], False), True)
        self.assertIs(self.told(world, [(0, 1), (2, 3)], True), False)

    def test_all_choices_of_pairs_in_the_smallest_worlds(self):
        for world in [plain(world) for world in worlds_of(2)]:
            for pairs in some_of(itertools.product(range(2), repeat=2)):
                for owned in (False, True):
                    self.assertIs(self.told(world, pairs, owned), shows_likeness(world, pairs, owned))
        for world in [plain(world) for world in list(worlds_of(3))[::57]]:
            for pairs in some_of(itertools.product(range(3), repeat=2)):
                for owned in (False, True):
                    self.assertIs(are_alike_by(world, pairs, owned), shows_likeness(world, pairs, owned))

    def test_all_that_are_alike_and_one_pair_more_or_fewer(self):
        for world in some_worlds()[::3]:
            for owned in (False, True):
                whole = sorted(all_alike(world, owned))
                self.assertIs(self.told(world, whole, owned), True)
                for place in range(0, len(whole), 1 + len(whole) // 9):
                    pairs = whole[:place] + whole[place + 1:]
                    self.assertIs(are_alike_by(world, pairs, owned), shows_likeness(world, pairs, owned))
                size = len(world[0])
                for pair in list(itertools.product(range(size), repeat=2))[::1 + size * size // 9]:
                    if pair not in whole:
                        self.assertIs(are_alike_by(world, whole + [pair], owned), False)

    def test_no_world(self):
        for wrong, world in wrong_worlds():
            with self.subTest(wrong):
                self.refused(NoWorld, are_alike_by, world, [], False)
                self.refused(NoWorld, are_alike_by, world, [(0, 0)], True)

    def test_no_room(self):
        for size in (1, 4, 24):
            for room in WRONG_ROOMS + [size, size + 1, -size, -size - 1]:
                if not 0 <= room < size:
                    for pair in [(room, 0), (0, room), (room, room)]:
                        self.refused(NoRoom, are_alike_by, ring(size), [pair], False)
                        self.refused(NoRoom, are_alike_by, ring(size), [(0, 0), pair], True)
                        self.refused(NoRoom, are_alike_by, ring(size), [pair, (0, 0)], True)

    def test_a_room_that_is_none_goes_ahead_of_any_answer(self):
        # The pairs ahead of the wrong one don't show likeness, but are not told of.
        self.refused(NoRoom, are_alike_by, HALL, [(0, 1), (0, 4), (5, 0)], False)
        self.refused(NoRoom, are_alike_by, HALL, [(0, 1)] * 100 + [(0, -1)], False)

    def test_the_world_goes_ahead_of_the_rooms(self):
        for room in WRONG_ROOMS:
            self.refused(NoWorld, are_alike_by, WRONG_WORLD, [(room, 0)], False)
            self.refused(NoWorld, are_alike_by, WRONG_WORLD, [(0, room)], True)


if __name__ == "__main__":
    unittest.main()
