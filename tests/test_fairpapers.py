"""foreseehall.fairpapers: points [1], [32] and [33], and the interface's section of that name."""

import copy
import itertools
import unittest

from foreseehall.errors import NoMark, NoRoom, NoWay, NoWorld
from foreseehall.fair import fair_way
from foreseehall.fairpapers import fair_paper, is_fair_paper, way_is_fair
from hallcase import (
    FAR, LETTERS, WRONG_MARK_LISTS, WRONG_MARKS, WRONG_WORLD, HallCase, fair_of, full, is_fair, mixed, other_ranks,
    other_rooms, plain, ring, some_of, worlds_for_fair, wrong_lists, wrong_worlds,
)

# Rooms 0, 1, 2 go round; from 2 one may go to 3, from there only to 4, and from 4 to 5, where one stays.
HALL = ([0, 1, 0, 1, 0, 1], [["a"], [], ["b"], ["a"], [], ["c"]], [[1], [2], [0, 3], [4], [5], [5]])
ALL = [0, 1, 2, 3, 4, 5]


def is_row_right(world, left, marks, row, mark):
    if not row or row != sorted(set(row)) or not set(row) <= left:
        return False
    ahead = {there for room in row for there in world[2][room]} & left
    if mark is None:
        return not ahead
    return mark in marks and not any(mark in world[1][room] for room in row) and ahead <= set(row)


def are_ranks_right(world, kept, mark, ranks):
    if len(ranks) != len(world[0]) or any((rank is not None) != (room in kept) for room, rank in enumerate(ranks)):
        return False
    for room in kept:
        if ranks[room] < 0 or (ranks[room] == 0) != (mark in world[1][room]):
            return False
        if ranks[room] > 0 and not any(there in kept and ranks[there] < ranks[room] for there in world[2][room]):
            return False
    return True


def is_right(world, rooms, marks, told):
    """Point [32], word by word."""
    rows, kept, ranks = told
    left = set(rooms)
    for row, mark in rows:
        if not is_row_right(world, left, marks, row, mark):
            return False
        left -= set(row)
    if kept != sorted(left) or not all(set(world[2][room]) & left for room in left) or len(ranks) != len(marks):
        return False
    return all(are_ranks_right(world, left, mark, each) for mark, each in zip(marks, ranks))


def fewest_steps(world, kept, mark):
    """For each kept room the fewest steps through kept rooms to one with the mark, found by going on and on."""
    found = [None] * len(world[0])
    for room in kept:
        here, many = {room}, 0
        while not any(mark in world[1][each] for each in here):
            here, many = {there for each in here for there in world[2][each] if there in kept}, many + 1
        found[room] = many
    return found


def other_rows(rows, marks, size):
    """Rows with one thing otherwise."""
    yield from [rows[::-1], rows + rows, rows[1:] + rows[:1], [], rows + [([], None)], [([], None)] + rows]
    yield from [rows + [([room], mark)] for room in range(-1, size + 1) for mark in (None, "a")]
    yield from [[([room], mark)] + rows for room in range(-1, size + 1) for mark in (None, "b")]
    for place, (row, mark) in enumerate(rows):
        ahead, behind = rows[:place], rows[place + 1:]
        yield from [ahead + behind, ahead + [(row, mark)] * 2 + behind, ahead + [(row[:1], mark), (row[1:], mark)] + behind]
        yield from [ahead + [([room], mark) for room in row] + behind, ahead + [([], mark)] + behind]
        yield from [ahead + [([room], mark) for room in row[::-1]] + behind]
        yield from [ahead + [(row, each)] + behind for each in [None, "a", "b", "c", "f", "", "g", "ab"]]
        yield from [ahead + [(each, mark)] + behind for each in other_rooms(row, size)]


def papers_beside(told, marks, size):
    """Papers with one thing otherwise."""
    rows, kept, ranks = told
    found = [(other, kept, ranks) for other in other_rows(rows, marks, size)]
    # A room that is moved between rows and kept, so that one fault hides another.
    found += [(other, sorted(set(kept) | {room}), ranks) for room in range(size) for other in (rows, rows[:-1], rows[1:])]
    found += [(rows + [([room], None)], [each for each in kept if each != room], ranks) for room in kept]
    found += [(rows, other, ranks) for other in other_rooms(kept, size)]
    found += [(rows, kept, other) for other in [[], ranks + [[None] * size], ranks + ranks, ranks[::-1], ranks[:-1], ranks[1:]]]
    found += [(rows, kept, [[None] * size] + ranks), (rows, kept, ranks + [[]])]
    for place, each in enumerate(ranks):
        others = [other for other in other_ranks(each, size) if other is not None]
        found += [(rows, kept, ranks[:place] + [other] + ranks[place + 1:]) for other in others]
    return [copy.deepcopy(other) for other in found]


class FairPaper(HallCase):
    def written(self, world, rooms, marks):
        told = self.ask(fair_paper, world, rooms, marks)
        rows, kept, ranks = told
        self.assertIsInstance(told, tuple)
        self.assertTrue(all(isinstance(row, tuple) and len(row) == 2 for row in rows))
        self.assertTrue(is_right(world, rooms, marks, told), (world, rooms, marks, told))
        self.assertIs(is_fair_paper(world, rooms, marks, told), True)
        self.same(kept, fair_of(world, rooms, marks))
        self.same(ranks, [fewest_steps(world, kept, mark) for mark in marks])
        return told

    def test_an_ordinary_world(self):
        rows, kept, ranks = self.written(HALL, ALL, ["a", "b"])
        self.same(sorted(room for row, mark in rows for room in row), [3, 4, 5])
        self.same(kept, [0, 1, 2])
        self.same(ranks, [[0, 2, 1, None, None, None], [2, 1, 0, None, None, None]])
        self.same(self.written(HALL, ALL, []), ([], ALL, []))
        self.same(self.written(HALL, ALL, ["c"]), ([], ALL, [[5, 4, 3, 2, 1, 0]]))

    def test_rows_without_a_mark(self):
        rows, kept, ranks = self.written(HALL, [0, 1, 2, 3, 4], [])
        self.same((kept, ranks), ([0, 1, 2], []))
        self.assertEqual({mark for row, mark in rows}, {None})
        self.same(self.written(ring(24), list(range(23)), ["a", "f"])[1:], ([], [[None] * 24, [None] * 24]))

    def test_no_rooms_at_all(self):
        for world in (HALL, ring(1), full(24)):
            size = len(world[0])
            for marks in some_of("ab") + [list(LETTERS)]:
                self.same(self.written(world, [], marks), ([], [], [[None] * size for _ in marks]))

    def test_the_edges(self):
        self.same(self.written(ring(1), [0], []), ([], [0], []))
        self.same(self.written(ring(1), [0], ["f"]), ([([0], "f")], [], [[None]]))
        self.same(self.written(full(1), [0], list(LETTERS)), ([], [0], [[0]] * 6))
        self.same(self.written(full(24), list(range(24)), list(LETTERS)), ([], list(range(24)), [[0] * 24] * 6))
        self.same(self.written(ring(24), list(range(24)), ["d"]), ([(list(range(24)), "d")], [], [[None] * 24]))
        owners, marks, steps = ring(24)
        marks[23] = ["e"]
        told = self.written((owners, marks, steps), list(range(24)), ["e"])
        self.same(told, ([], list(range(24)), [list(range(23, -1, -1))]))

    def test_small_worlds(self):
        for world in worlds_for_fair()[::3]:
            for rooms in some_of(range(len(world[0]))):
                for marks in some_of("ab"):
                    self.written(world, rooms, marks)

    def test_greater_worlds(self):
        for world in [mixed(24, 1), plain(mixed(24, 2), "ab"), mixed(23, 3), mixed(12, 4)]:
            size = len(world[0])
            for rooms in (list(range(size)), list(range(0, size, 2)), list(range(size // 3, size))):
                for marks in ([], ["a"], ["a", "b"], list(LETTERS)):
                    self.written(world, rooms, marks)

    def test_a_mark_that_is_nearer_through_rooms_that_are_not_kept(self):
        # From 0 the room 1 has the mark, but from there one can't stay; kept is the long way round.
        world = ([0] * 4, [[], ["a"], [], ["a"]], [[1, 2], [1], [3], [0]])
        self.same(self.written(world, [0, 1, 2, 3], ["a"])[2], [[1, 0, 1, 0]])
        self.same(self.written(world, [0, 2, 3], ["a"])[2], [[2, None, 1, 0]])
        world = ([0] * 5, [[], ["a"], [], ["a"], []], [[1, 2], [4], [3], [0], [4]])
        self.same(self.written(world, [0, 1, 2, 3, 4], ["a"])[1:], ([0, 2, 3], [[2, None, 1, 0, None]]))


class IsFairPaper(HallCase):
    def looked_at(self, world, rooms, marks, told):
        answer = is_fair_paper(world, rooms, marks, told)
        self.assertIs(answer, is_right(world, rooms, marks, told), (world, rooms, marks, told))
        if answer:
            self.assertEqual(told[1], fair_of(world, rooms, marks))
        return answer

    def answered(self, is_so, rows, kept, ranks, marks=("a", "b"), rooms=ALL):
        told = (rows, kept, ranks)
        self.assertIs(is_right(HALL, rooms, list(marks), told), is_so)
        self.assertIs(self.ask(is_fair_paper, HALL, list(rooms), list(marks), told), is_so)

    def test_right_ones_that_are_not_as_told(self):
        near = [[0, 2, 1, None, None, None], [2, 1, 0, None, None, None]]
        for rows in [
            [([3, 4, 5], "b")],
            [([4, 5], "b"), ([3], "b")],
            [([4, 5], "a"), ([3], None)],
            [([5], "a"), ([4], None), ([3], None)],
            [([5], "b"), ([4], "a"), ([3], "b")],
            [([5], "b"), ([4], None), ([3], None)],
        ]:
            self.answered(True, rows, [0, 1, 2], near)
        for ranks in [
            [[0, 3, 2, None, None, None], [9, 4, 0, None, None, None]],
            [[0, FAR, 1, None, None, None], [FAR, FAR - 1, 0, None, None, None]],
        ]:
            self.answered(True, [([3, 4, 5], "b")], [0, 1, 2], ranks)

    def test_wrong_rows(self):
        near = [[0, 2, 1, None, None, None], [2, 1, 0, None, None, None]]
        for rows in [
            [], [([3, 4, 5], "a")], [([3, 4, 5], None)], [([3, 4, 5], "c")], [([3, 4, 5], "")], [([3, 4, 5], "ab")],
            [([5, 4, 3], "b")], [([3, 4, 4, 5], "b")], [([3, 4, 5], "b"), ([5], None)], [([3, 4, 5], "b"), ([], None)],
            [([], "b"), ([3, 4, 5], "b")], [([3, 4], "b"), ([5], "b")], [([3], "b"), ([4, 5], "b")], [([4, 5], "b")],
            [([5], None), ([4], None), ([3], None)], [([4, 5], "a"), ([3], "a")], [([3], None), ([4, 5], "a")],
            [([3, 4, 5, 6], "b")], [([-1, 3, 4, 5], "b")], [([3, 4, 5], "b"), ([3, 4, 5], "b")], [([3, 4, 5], "f")],
            [([3, 4, FAR], "b")], [([-3, -2, -1], "b")], [([3, 4, 5], "b"), ([6], None)], [([3, 4, 5], "b"), ([-FAR], "a")],
            [([3, 4, 5], "b")] * 60, [([0] * 120, "b")],
        ]:
            self.answered(False, rows, [0, 1, 2], near)

    def test_rooms_with_a_step_to_themselves_have_one_that_is_left(self):
        for rows in ([([5], None)], [([5], None), ([4], None)]):
            self.answered(False, rows, ALL[:5], [], marks=())
            self.answered(False, rows, ALL[:4], [], marks=())
        self.answered(True, [([4], None), ([3], None)], [0, 1, 2], [], marks=(), rooms=[0, 1, 2, 3, 4])
        self.answered(False, [([3, 4], None)], [0, 1, 2], [], marks=(), rooms=[0, 1, 2, 3, 4])
        self.answered(False, [([3], None), ([4], None)], [0, 1, 2], [], marks=(), rooms=[0, 1, 2, 3, 4])

    def test_a_row_with_a_mark_may_not_have_a_room_that_has_it(self):
        # From 3 all steps lead to rooms of the row, but 3 has the mark.
        self.answered(False, [([3, 4, 5], "a")], [0, 1, 2], [[0, 2, 1, None, None, None]], marks=("a",))
        self.answered(False, [([3], "a"), ([4, 5], "a")], [0, 1, 2], [[0, 2, 1, None, None, None]], marks=("a",))
        self.answered(True, [([4, 5], "a"), ([3], None)], [0, 1, 2], [[0, 2, 1, None, None, None]], marks=("a",))

    def test_wrong_kept_rooms(self):
        near = [[0, 2, 1, None, None, None], [2, 1, 0, None, None, None]]
        for kept in [[], [0, 1], [0, 2, 1], [0, 1, 2, 2], [0, 1, 2, 3], [0, 1, 2, 5], [-1, 0, 1, 2], [0, 1, 2, 6], ALL, [0, 1, FAR]]:
            self.answered(False, [([3, 4, 5], "b")], kept, near)

    def test_kept_rooms_must_go_on(self):
        # All ranks are right: the room 0 has the mark, but from it one can't stay.
        world = ([0, 0], [["a"], []], [[1], [1]])
        for told, is_so in [
            (([([1], "a")], [0], [[0, None]]), False),
            (([([1], "a"), ([0], None)], [], [[None, None]]), True),
            (([([1], "a"), ([0], "a")], [], [[None, None]]), False),
        ]:
            self.assertIs(self.ask(is_fair_paper, world, [0, 1], ["a"], told), is_so)
            self.assertIs(is_right(world, [0, 1], ["a"], told), is_so)
        self.assertIs(self.ask(is_fair_paper, world, [0], [], ([], [0], [])), False)
        self.assertIs(self.ask(is_fair_paper, world, [0], [], ([([0], None)], [], [])), True)

    def test_wrong_ranks(self):
        rows, kept = [([3, 4, 5], "b")], [0, 1, 2]
        one, other = [0, 2, 1, None, None, None], [2, 1, 0, None, None, None]
        for ranks in [
            [], [one], [one, other, other], [other, one], [one, one], [one, []], [one, [None] * 6], [[], []],
            [one[:5], other], [one[:3], other], [one + [None], other], [one, other + [0]], [[0, 2, 1, None, None, 0], other],
            [[0, 2, 1, 0, None, None], other], [[0, 2, None, None, None, None], other], [[1, 3, 2, None, None, None], other],
            [[0, 1, 1, None, None, None], other], [[0, 2, 0, None, None, None], other], [[0, 2, -1, None, None, None], other],
            [[-1, 2, 1, None, None, None], other], [[0, 1, 2, None, None, None], other], [[None, 2, 1, None, None, None], other],
            [[0, -1, -2, None, None, None], other], [[0, 0, 0, None, None, None], other], [[0, 2, 2, None, None, None], other],
            [[0, FAR, FAR, None, None, None], other], [[0, -FAR, 1, None, None, None], other], [one, [1, 2, 0, None, None, None]],
            [[0] * 120, other], [one, list(range(120))], [one, other] * 60,
        ]:
            self.answered(False, rows, kept, ranks)
        self.answered(True, rows, kept, [one, other])

    def test_a_rank_may_not_count_on_a_room_that_is_not_kept(self):
        world = ([0] * 3, [[], ["a"], ["a"]], [[1, 2], [0], [2]])
        told = ([], [0, 1], [[1, 0, None]])
        self.assertIs(self.ask(is_fair_paper, world, [0, 1], ["a"], told), True)
        for ranks in ([1, 0, 0], [5, 0, 3], [1, 0, FAR]):
            self.assertIs(self.ask(is_fair_paper, world, [0, 1], ["a"], ([], [0, 1], [ranks])), False)

    def test_papers_with_one_thing_otherwise(self):
        counts = [0, 0]
        for world in [HALL] + worlds_for_fair()[::11]:
            size = len(world[0])
            for rooms in (list(range(size)), list(range(size - 1)), list(range(0, size, 2))):
                for marks in some_of("ab") + [["a", "c"]]:
                    for told in papers_beside(fair_paper(world, rooms, marks), marks, size):
                        counts[self.looked_at(world, rooms, marks, told)] += 1
        self.assertGreater(min(counts), 300)

    def test_papers_of_other_rooms_and_marks(self):
        asked = [(rooms, marks) for rooms in (ALL, ALL[:5], [0, 1, 2], [], [5]) for marks in some_of("abc")]
        for (rooms, marks), (others, letters) in itertools.product(asked, repeat=2):
            self.looked_at(HALL, rooms, marks, fair_paper(HALL, others, letters))

    def test_what_is_handed_in_stays_as_it_is(self):
        for marks in some_of("ab"):
            for told in papers_beside(fair_paper(HALL, ALL, marks), marks, 6)[::9]:
                self.assertIsInstance(self.ask(is_fair_paper, HALL, ALL, marks, told), bool)

    def test_a_list_that_stands_in_many_places(self):
        rooms = [0, 1]
        world = ([0, 1], [["a", "b"], ["a", "b"]], [rooms, rooms])
        ranks = [0, 0]
        self.assertIs(self.ask(is_fair_paper, world, rooms, ["a", "b"], ([], rooms, [ranks, ranks])), True)

    def test_all_small_papers_of_the_smallest_worlds(self):
        counts = [0, 0]
        for world in [([0, 0], [["a"], []], steps) for steps in ([[0, 1], [1]], [[1], [0]], [[1], [1]], [[0], [0, 1]], [[0], [1]])]:
            rows = [(row, mark) for row in ([0], [1], [0, 1], [1, 0], []) for mark in (None, "a", "b")]
            some_rows = [[]] + [[row] for row in rows] + [list(two) for two in itertools.product(rows, repeat=2)]
            numbers = [list(two) for two in itertools.product([None, 0, 1, 2], repeat=2)]
            for asked, kept, ranks in itertools.product(some_rows, some_of([0, 1]), numbers):
                for rooms in ([0, 1], [0]):
                    counts[self.looked_at(world, rooms, ["a"], (asked, kept, [ranks]))] += 1
        self.assertGreater(min(counts), 9)


class WayIsFair(HallCase):
    def test_an_ordinary_world(self):
        around = ([], [0, 1, 2])
        for rooms, marks, way, is_so in [
            (ALL, [], around, True), (ALL, ["a"], around, True), (ALL, ["a", "b"], around, True), (ALL, ["c"], around, False),
            (ALL, ["a", "c"], around, False), ([0, 1, 2], ["a"], around, True), ([0, 1], [], around, False),
            (ALL, ["a"], ([0, 1, 2, 3, 4], [5]), False), (ALL, ["c"], ([0, 1, 2, 3, 4], [5]), True),
            (ALL[1:], ["c"], ([0, 1, 2, 3, 4], [5]), False), (ALL[:5], [], ([4], [5]), False), ([4, 5], [], ([4], [5]), True),
            ([5], [], ([4], [5]), False), ([5], ["c"], ([], [5, 5]), True), ([], [], ([], [5]), False), ([4], [], ([4], [5]), False),
        ]:
            self.assertIs(self.ask(way_is_fair, HALL, rooms, marks, way), is_so)
            self.assertIs(is_fair(HALL, rooms, marks, way), is_so)

    def test_a_mark_in_the_front_alone_is_not_met_again(self):
        world = ([0, 0], [["a"], ["b"]], [[1], [1]])
        self.assertIs(self.ask(way_is_fair, world, [0, 1], ["a"], ([0], [1])), False)
        self.assertIs(self.ask(way_is_fair, world, [0, 1], ["b"], ([0], [1])), True)
        self.assertIs(self.ask(way_is_fair, world, [0, 1], ["a", "b"], ([0], [1])), False)

    def test_the_edges(self):
        rooms = list(range(24))
        self.assertIs(self.ask(way_is_fair, ring(1), [0], [], ([], [0])), True)
        self.assertIs(self.ask(way_is_fair, ring(1), [], [], ([], [0])), False)
        self.assertIs(self.ask(way_is_fair, ring(24), rooms, [], (rooms, rooms)), True)
        self.assertIs(self.ask(way_is_fair, ring(24), rooms, ["a"], (rooms, rooms)), False)
        self.assertIs(self.ask(way_is_fair, ring(24), rooms[:-1], [], (rooms, rooms)), False)
        self.assertIs(self.ask(way_is_fair, full(24), rooms, list(LETTERS), ([5, 7], [1])), True)
        self.assertIs(self.ask(way_is_fair, full(24), rooms[2:], list(LETTERS), ([5, 7], [1])), False)

    def test_told_ways_are_fair(self):
        for world in worlds_for_fair()[::5]:
            for rooms in some_of(range(len(world[0]))):
                for marks in some_of("ab"):
                    for room in fair_of(world, rooms, marks):
                        way = fair_way(world, rooms, marks, room)
                        for asked in some_of("abc"):
                            is_so = is_fair(world, rooms, asked, way)
                            self.assertIs(way_is_fair(world, rooms, asked, way), is_so)
                            self.assertTrue(is_so or not set(asked) <= set(marks))


class Refusals(HallCase):
    def asked(self, kind, world, rooms, marks):
        right = ([], [], [])
        self.refused(kind, fair_paper, world, rooms, marks)
        self.refused(kind, is_fair_paper, world, rooms, marks, right)
        self.refused(kind, is_fair_paper, world, rooms, marks, ([([-1], "g")], [9, 9], [[]]))
        self.refused(kind, way_is_fair, world, rooms, marks, ([], [0]))
        self.refused(kind, way_is_fair, world, rooms, marks, ([], []))

    def test_no_world(self):
        for wrong, world in wrong_worlds():
            with self.subTest(wrong):
                self.asked(NoWorld, world, [], [])
        for marks, rooms in itertools.product((["g"], ["b", "a"]), ([1, 0], [9])):
            self.asked(NoWorld, WRONG_WORLD, rooms, marks)

    def test_no_mark(self):
        for marks in WRONG_MARK_LISTS:
            for rooms in ([0, 1], [1, 0], [-1]):
                self.asked(NoMark, HALL, rooms, marks)

    def test_no_rooms(self):
        for world in (HALL, ring(1), ring(24)):
            for rooms in wrong_lists(len(world[0])):
                self.asked(NoRoom, world, rooms, [])
                self.asked(NoRoom, world, rooms, ["a", "f"])

    def test_no_way(self):
        for way in [([], []), ([0], []), ([], [0]), ([], [0, 1]), ([0], [2]), ([], [6]), ([], [-1]), ([-1], [5]), ([FAR], [5]), ([5], [-FAR])]:
            for rooms in ([], ALL, [0, 1]):
                for marks in ([], ["a"]):
                    self.refused(NoWay, way_is_fair, HALL, rooms, marks, way)

    def test_no_mark_of_a_row_is_refused(self):
        for mark in WRONG_MARKS:
            self.assertIs(self.ask(is_fair_paper, HALL, ALL, [], ([([5], mark)], ALL[:5], [])), False)
            self.assertIs(self.ask(is_fair_paper, HALL, ALL, ["a"], ([([5], mark)], ALL[:5], [[]])), False)


if __name__ == "__main__":
    unittest.main()
