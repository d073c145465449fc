"""foreseehall.apart: points [1], [26] and [27], and the interface's section of that name."""

import copy
import itertools
import unittest

from foreseehall.apart import apart, are_unlike_by, unlike
from foreseehall.building import renamed
from foreseehall.errors import NoRoom, NoWorld, TooGreat
from foreseehall.likeness import alike
from hallcase import (
    FAR, LETTERS, WRONG_ROOMS, WRONG_WORLD, HallCase, all_alike, full, mixed, plain, ring, some_of, truths, tuples_in,
    worlds_of, wrong_worlds,
)

# Rooms 0 and 3 are alike, though not their owners, and so are 1 and 2; 4 looks like 0 and 3, but may stay.
HALL = ([0, 1, 1, 1, 0], [["a"], ["b"], ["b"], ["a"], ["a"]], [[1, 2], [0], [3], [2], [1, 4]])


def does_hold(world, row, earlier):
    """Point [26], word by word, of one row; earlier are the pairs of the rows ahead of it."""
    marks, steps = world[1:]
    one, other, reason = row
    if reason[0] == "mark":
        return (reason[1] in marks[one]) + (reason[1] in marks[other]) == 1
    word, side, there = reason
    if side == 0:
        return there in steps[one] and all((there, room) in earlier for room in steps[other])
    if side == 1:
        return there in steps[other] and all((room, there) in earlier for room in steps[one])
    return False


def do_hold(world, rows):
    return all(does_hold(world, row, [each[:2] for each in rows[:place]]) for place, row in enumerate(rows))


def closed(sets, size):
    """All sets that not and and make of some, each told by a number with a bit for each room."""
    whole = 2 ** size - 1
    found = {whole} | set(sets)
    ahead = None
    while found != ahead:
        ahead = set(found)
        found |= {whole ^ one for one in ahead} | {one & other for one in ahead for other in ahead}
    return found


def fewest_nexts(world):
    """For each pair of rooms how many some nexts stand at least within one another in what tells them apart."""
    size = len(world[0])
    pairs = list(itertools.product(range(size), repeat=2))
    marked = [sum(1 << room for room in range(size) if letter in world[1][room]) for letter in LETTERS]
    sets = closed(marked, size)
    found, many, ahead = {}, 0, None
    while sets != ahead:
        for one, other in pairs:
            if any(told >> one & 1 and not told >> other & 1 for told in sets):
                found.setdefault((one, other), many)
        ahead, many = sets, many + 1
        nexts = [sum(1 << room for room in range(size) if any(told >> there & 1 for there in world[2][room])) for told in sets]
        sets = closed(sets | set(nexts), size)
    return found


def nexts_within(sentence):
    if sentence[0] in ("yes", "mark"):
        return 0
    return (sentence[0] == "some next") + max(nexts_within(part) for part in sentence[1:])


def chain_world(size):
    """Rooms in a row, at whose end one stays and has a mark: far rooms are unlike by many steps."""
    marks = [[] for _ in range(size - 1)] + [["c"]]
    return ([0] * size, marks, [[min(room + 1, size - 1)] for room in range(size)])


def small_worlds():
    found = [plain(world, letters) for letters in ("a", "") for size in (1, 2) for world in worlds_of(size)]
    found += [plain(world, "ab") for world in list(worlds_of(3))[::11]] + [plain(mixed(4, seed)) for seed in range(9)]
    return found + [HALL, ring(6), full(6), chain_world(6), chain_world(5)]


def worlds_of_six():
    lone = [["a"], [], [], [], [], []]
    found = [plain(mixed(6, seed)) for seed in range(25)] + [(mixed(6, seed)[0], lone, mixed(6, seed)[2]) for seed in range(25)]
    steps = [[1, 2, 3], [1, 3, 4], [1, 4], [0, 1, 3, 4, 5], [0, 1, 2, 3, 4, 5], [1]]
    return found + [([0] * 6, [[], ["a"], [], [], [], ["a"]], steps), ([1] * 6, lone, [[0, 1, 2, 3, 4], [0], [0, 1, 3, 4, 5], [0, 1, 2, 4], [0, 5], [0, 1, 2]])]


def great_worlds():
    return [ring(24), full(24), chain_world(24), plain(mixed(24, 1)), mixed(24, 2), plain(mixed(23, 3), "f"), ring(7)]


class Unlike(HallCase):
    def told(self, world, one, other, is_alike):
        rows = self.ask(unlike, world, one, other)
        if is_alike:
            self.assertIsNone(rows)
            return None
        self.assertIsInstance(rows, list)
        self.assertTrue(all(isinstance(row, tuple) and len(row) == 3 and isinstance(row[2], tuple) for row in rows))
        self.same(rows[-1][:2], (one, other))
        self.assertTrue(do_hold(world, rows))
        self.assertIs(are_unlike_by(world, rows), True)
        return rows

    def test_by_a_mark(self):
        world = ([0, 0, 0], [["a", "b"], ["b"], ["b", "f"]], [[0], [1], [2]])
        self.same(self.told(world, 0, 1, False), [(0, 1, ("mark", "a"))])
        self.same(self.told(world, 1, 0, False), [(1, 0, ("mark", "a"))])
        self.same(self.told(world, 1, 2, False), [(1, 2, ("mark", "f"))])

    def test_by_a_step(self):
        # Room 1 can do all that room 0 can, and one thing more.
        world = ([0] * 4, [[], [], ["a"], ["b"]], [[2], [2, 3], [2], [3]])
        for one, other in [(0, 1), (1, 0)]:
            rows = self.told(world, one, other, False)
            self.assertEqual(rows[-1][2], ("step", [one, other].index(1), 3))

    def test_an_ordinary_world(self):
        for one, other in itertools.product(range(5), repeat=2):
            group = [[0, 3], [1, 2], [4]]
            self.told(HALL, one, other, any(one in rooms and other in rooms for rooms in group))

    def test_owners_do_not_count(self):
        world = ([0, 1, 0], [[], [], []], [[1], [2], [0]])
        for one, other in itertools.product(range(3), repeat=2):
            self.told(world, one, other, True)

    def test_a_room_is_like_itself(self):
        for world in [HALL, ring(24), full(24), chain_world(24)]:
            for room in range(0, len(world[0]), 4):
                self.assertIsNone(unlike(world, room, room))

    def test_small_worlds(self):
        for world in small_worlds():
            pairs = all_alike(world, False)
            for one, other in itertools.product(range(len(world[0])), repeat=2):
                self.told(world, one, other, (one, other) in pairs)

    def test_great_worlds(self):
        for world in great_worlds():
            pairs = all_alike(world, False)
            size = len(world[0])
            for one, other in list(itertools.product(range(size), repeat=2))[::211] + [(0, size - 1), (size - 1, 0), (0, 1)]:
                self.told(world, one, other, (one, other) in pairs)

    def test_a_difference_far_away(self):
        rows = self.told(chain_world(24), 0, 1, False)
        self.assertEqual(len(rows), 23)
        self.assertEqual(rows[0], (22, 23, ("mark", "c")))

    def test_just_where_they_are_not_alike(self):
        for world in small_worlds() + [plain(mixed(9, seed)) for seed in range(3)]:
            for one, other in itertools.product(range(len(world[0])), repeat=2):
                self.assertIs(unlike(world, one, other) is None, alike(world, one, other, False) is not None)

    def test_refusals(self):
        for room in WRONG_ROOMS + [5]:
            for other in (0, 4, 5, -1):
                self.refused(NoRoom, unlike, HALL, room, other)
                self.refused(NoRoom, unlike, HALL, other, room)
            self.refused(NoWorld, unlike, WRONG_WORLD, room, room)
        for wrong, world in wrong_worlds():
            with self.subTest(wrong):
                self.refused(NoWorld, unlike, world, 0, 0)
                self.refused(NoWorld, unlike, world, -1, 99)


class AreUnlikeBy(HallCase):
    def looked_at(self, world, rows):
        answer = are_unlike_by(world, rows)
        self.assertIs(answer, do_hold(world, rows), (world, rows))
        return answer

    def test_no_rows_hold(self):
        for world in (ring(1), ring(24), HALL):
            self.assertIs(self.ask(are_unlike_by, world, []), True)

    def test_marks(self):
        marks = {0: "ab", 1: "b", 2: ""}
        world = ([0, 0, 0], [list(marks[room]) for room in range(3)], [[0], [1], [2]])
        for one, other in itertools.product(range(3), repeat=2):
            for letter in LETTERS:
                is_so = (letter in marks[one]) != (letter in marks[other])
                self.assertIs(self.ask(are_unlike_by, world, [(one, other, ("mark", letter))]), is_so)

    def test_steps_and_their_sides(self):
        # From 0 one comes to 2 and 3, from 1 only to 2.
        world = ([0] * 4, [[], [], ["a"], ["b"]], [[2, 3], [2], [2], [3]])
        ahead, turned = (3, 2, ("mark", "a")), (2, 3, ("mark", "b"))
        for rows, is_so in [
            ([ahead, (0, 1, ("step", 0, 3))], True),
            ([turned, (0, 1, ("step", 0, 3))], False),
            ([(0, 1, ("step", 0, 3))], False),
            ([(0, 1, ("step", 0, 3)), ahead], False),
            ([ahead, (0, 1, ("step", 1, 3))], False),
            ([ahead, turned, (0, 1, ("step", 1, 3))], False),
            ([ahead, turned, (0, 1, ("step", 0, 2))], False),
            ([turned, (1, 0, ("step", 1, 3))], True),
            ([ahead, (1, 0, ("step", 1, 3))], False),
            ([ahead, turned, (1, 0, ("step", 0, 3))], False),
            ([ahead, turned, (1, 0, ("step", 1, 3)), (0, 1, ("step", 0, 3))], True),
            ([ahead, ahead, (0, 1, ("step", 0, 3)), (0, 1, ("step", 0, 3))], True),
            ([ahead, (0, 1, ("step", 0, 3)), (2, 2, ("mark", "a"))], False),
        ]:
            self.assertIs(self.ask(are_unlike_by, world, rows), is_so)
            self.assertIs(do_hold(world, rows), is_so)

    def test_all_the_rooms_on_the_other_side_are_asked_for(self):
        world = ([0] * 5, [[], [], ["a"], ["b"], ["c"]], [[2, 3, 4], [3, 4], [2], [3], [4]])
        rows = [(2, 3, ("mark", "a")), (2, 4, ("mark", "c")), (0, 1, ("step", 0, 2))]
        self.assertIs(self.ask(are_unlike_by, world, rows), True)
        self.assertIs(self.ask(are_unlike_by, world, rows[1:]), False)
        self.assertIs(self.ask(are_unlike_by, world, [rows[0], rows[2], rows[1]]), False)
        self.assertIs(self.ask(are_unlike_by, world, rows[:2]), True)

    def test_sides_and_rooms_that_there_are_not(self):
        world = ([0] * 4, [[], [], ["a"], ["b"]], [[2, 3], [2], [2], [3]])
        both = [(3, 2, ("mark", "a")), (2, 3, ("mark", "b"))]
        for side in (-1, -2, 2, 3, FAR, -FAR):
            for there in range(4):
                self.assertIs(self.ask(are_unlike_by, world, both + [(0, 1, ("step", side, there))]), False)
        for there in (-1, -2, -4, 4, 5, FAR, -FAR, 0, 1):
            for side in (0, 1):
                self.assertIs(self.ask(are_unlike_by, world, both + [(0, 1, ("step", side, there))]), False)

    def test_a_circle_shows_nothing(self):
        rows = [(0, 1, ("step", 0, 1)), (1, 0, ("step", 0, 0))]
        self.assertIs(self.ask(are_unlike_by, ring(2), rows), False)
        self.assertIs(self.ask(are_unlike_by, ring(2), rows + rows), False)
        self.assertIs(self.ask(are_unlike_by, ring(1), [(0, 0, ("step", 0, 0))]), False)
        self.assertIs(self.ask(are_unlike_by, full(24), [(0, 0, ("mark", "a"))]), False)

    def test_told_rows_with_one_thing_otherwise(self):
        counts = [0, 0]
        for world in [HALL, chain_world(4)] + small_worlds()[30::5]:
            for one, other in itertools.product(range(len(world[0])), repeat=2):
                for rows in self.rows_beside(unlike(world, one, other) or [], len(world[0])):
                    counts[self.looked_at(world, rows)] += 1
        self.assertGreater(min(counts), 500)

    def rows_beside(self, rows, size):
        yield from [rows, rows[::-1], rows + rows, rows[1:] + rows[:1]]
        for place, (one, other, reason) in enumerate(rows):
            ahead, behind = rows[:place], rows[place + 1:]
            yield ahead + behind
            yield ahead + [rows[place]] * 2 + behind
            yield ahead + [(other, one, reason)] + behind
            yield behind + [rows[place]] + ahead
            reasons = [("mark", letter) for letter in LETTERS[:3]]
            reasons += [("step", side, there) for side in (0, 1, 2, -1) for there in range(-1, size + 1)]
            yield from [ahead + [(one, other, each)] + behind for each in reasons]
            yield from [ahead + [(room, other, reason)] + behind for room in range(size)]
            yield from [ahead + [(one, room, reason)] + behind for room in range(size)]

    def test_all_rows_of_the_smallest_worlds(self):
        for world in [plain(world) for world in worlds_of(2)]:
            reasons = [("mark", "a"), ("mark", "b")] + [("step", side, there) for side in (0, 1) for there in (0, 1)]
            rows = [(one, other, reason) for one in (0, 1) for other in (0, 1) for reason in reasons]
            for many in (1, 2):
                for some in itertools.product(rows, repeat=many):
                    self.looked_at(world, list(some))

    def test_rows_that_hold_are_of_unlike_rooms(self):
        for world in [plain(world) for world in worlds_of(2)]:
            pairs = all_alike(world, False)
            reasons = [("mark", "a")] + [("step", side, there) for side in (0, 1) for there in (0, 1)]
            rows = [(one, other, reason) for one in (0, 1) for other in (0, 1) for reason in reasons]
            for some in itertools.product(rows, repeat=2):
                if are_unlike_by(world, list(some)):
                    self.assertTrue(all(row[:2] not in pairs for row in some))

    def test_many_rows(self):
        world = chain_world(24)
        rows = unlike(world, 0, 1)
        self.assertIs(self.ask(are_unlike_by, world, rows * 6), True)
        self.assertIs(self.ask(are_unlike_by, world, rows * 6 + [(0, 0, ("step", 0, 1))]), False)
        self.assertIs(self.ask(are_unlike_by, world, rows[1:] + rows * 5), False)

    def test_refusals(self):
        right = (0, 1, ("mark", "a"))
        for room in WRONG_ROOMS + [5]:
            for wrong in [(room, 0, ("mark", "a")), (0, room, ("mark", "a")), (room, 0, ("step", 0, 0)), (4, room, ("step", 1, 9))]:
                self.refused(NoRoom, are_unlike_by, HALL, [wrong])
                self.refused(NoRoom, are_unlike_by, HALL, [right, wrong])
                # A row that doesn't hold stands ahead of it.
                self.refused(NoRoom, are_unlike_by, HALL, [(0, 0, ("mark", "a")), right, wrong])
                self.refused(NoRoom, are_unlike_by, HALL, [(0, 1, ("step", 2, 9)), wrong, right])
                self.refused(NoWorld, are_unlike_by, WRONG_WORLD, [wrong])
        for wrong, world in wrong_worlds():
            with self.subTest(wrong):
                self.refused(NoWorld, are_unlike_by, world, [])
                self.refused(NoWorld, are_unlike_by, world, [(0, 0, ("mark", "a"))])

    def test_no_reason_is_refused_for_its_numbers(self):
        for there in WRONG_ROOMS:
            self.assertIs(self.ask(are_unlike_by, HALL, [(0, 1, ("step", 0, there))]), False)
            self.assertIs(self.ask(are_unlike_by, HALL, [(0, 1, ("step", there, 1))]), False)


class Apart(HallCase):
    def told(self, world, one, other, fewest):
        """What is told is as point [27] asks; fewest is how many nexts it needs, None where rooms are alike."""
        sentence = self.ask(apart, world, one, other)
        if fewest is None:
            self.assertIsNone(sentence)
            return None
        words = {each[0] for each in tuples_in(sentence)}
        self.assertLessEqual(words, {"yes", "mark", "not", "and", "some next"})
        holds = truths(world, sentence)
        self.assertIs(holds[one], True)
        self.assertIs(holds[other], False)
        self.assertEqual(nexts_within(sentence), fewest)
        return sentence

    def test_ordinary_rooms(self):
        world = ([0, 0, 0], [["a", "b"], ["b"], ["b"]], [[0], [1], [0]])
        self.same(self.told(world, 0, 1, 0), ("mark", "a"))
        self.same(self.told(world, 1, 0, 0), ("not", ("mark", "a")))
        self.told(world, 1, 2, 1)
        self.told(world, 2, 1, 1)

    def test_a_mark_that_only_the_first_or_only_the_second_room_has(self):
        for letter in LETTERS:
            world = ([0, 0], [[letter], []], [[0, 1], [0, 1]])
            self.same(self.told(world, 0, 1, 0), ("mark", letter))
            self.same(self.told(world, 1, 0, 0), ("not", ("mark", letter)))

    def test_small_worlds(self):
        for world in small_worlds():
            fewest = fewest_nexts(world)
            for one, other in itertools.product(range(len(world[0])), repeat=2):
                self.told(world, one, other, fewest.get((one, other)))

    def test_worlds_of_six_rooms(self):
        for world in worlds_of_six():
            fewest = fewest_nexts(world)
            for one, other in itertools.product(range(6), repeat=2):
                self.told(world, one, other, fewest.get((one, other)))

    def test_a_difference_far_away(self):
        self.told(chain_world(6), 0, 1, 4)
        self.told(chain_world(6), 1, 0, 4)
        self.told(chain_world(6), 0, 5, 0)

    def test_rooms_that_are_alike(self):
        for world in [ring(1), ring(6), full(6), full(1)]:
            for one, other in itertools.product(range(len(world[0])), repeat=2):
                self.told(world, one, other, None)

    def test_just_where_rows_are_told(self):
        for world in worlds_of_six():
            for one, other in itertools.product(range(6), repeat=2):
                self.assertIs(apart(world, one, other) is None, unlike(world, one, other) is None)

    def test_renamed_the_nexts_are_as_few(self):
        for order in list(itertools.permutations(range(5)))[::17]:
            world = renamed(HALL, list(order))
            fewest = fewest_nexts(world)
            for one, other in itertools.product(range(5), repeat=2):
                self.told(world, one, other, fewest.get((one, other)))

    def test_more_than_six_rooms(self):
        for world in [ring(7), full(7), mixed(7, 1), chain_world(7), ring(24), full(24), mixed(24, 1), chain_world(24)]:
            for one, other in [(0, 0), (0, 1), (1, 0), (6, 6), (0, 6)]:
                self.refused(TooGreat, apart, world, one, other)
            for room in WRONG_ROOMS:
                self.refused(NoRoom, apart, world, room, 0)
                self.refused(NoRoom, apart, world, 0, room)

    def test_refusals(self):
        for room in WRONG_ROOMS + [5]:
            for other in (0, 4, 5, -1):
                self.refused(NoRoom, apart, HALL, room, other)
                self.refused(NoRoom, apart, HALL, other, room)
            self.refused(NoWorld, apart, WRONG_WORLD, room, room)
        for wrong, world in wrong_worlds():
            with self.subTest(wrong):
                self.refused(NoWorld, apart, world, 0, 0)
                self.refused(NoWorld, apart, world, -1, 99)

    def test_what_is_told_is_small_enough_to_be_judged(self):
        # Not promised, but so in all of these worlds.
        for world in worlds_of_six() + small_worlds():
            for one, other in itertools.product(range(len(world[0])), repeat=2):
                sentence = apart(copy.deepcopy(world), one, other)
                self.assertLessEqual(len(tuples_in(sentence or ("yes",))), 200)


class Oracle(unittest.TestCase):
    def test_all_choices_of_rooms_in_the_smallest_worlds(self):
        # What not and and make of some sets, against all sets that don't part rooms which no set parts.
        for size in (1, 2, 3):
            for sets in some_of(range(2 ** size)):
                for told in range(2 ** size):
                    kept = all(
                        any((each >> one & 1) != (each >> other & 1) for each in sets)
                        for one in range(size) for other in range(size)
                        if (told >> one & 1) != (told >> other & 1)
                    )
                    self.assertIs(told in closed(sets, size), kept)


if __name__ == "__main__":
    unittest.main()
