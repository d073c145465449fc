"""foreseehall.worldnotes: points [1] and [6], and the interface's section of that name."""

import itertools
import re
import unittest

from foreseehall.errors import NoNote, NoWorld
from foreseehall.worldnotes import read, shown
from foreseehall.worlds import is_world
from hallcase import LETTERS, HallCase, full, mixed, ring, some_of, texts_beside, worlds_of, wrong_worlds

HALL = ([0, 1, 0, 1], [["a"], ["a", "c"], [], ["b", "f"]], [[1, 2], [0], [2, 3], [3]])
HALL_TEXT = "0:a:1 2\n1:ac:0\n0::2 3\n1:bf:3"

NUMBER = "(?:0|[1-9][0-9]*)"
ROW = re.compile(rf"([01]):(a?b?c?d?e?f?):({NUMBER}(?: {NUMBER})*)\Z")


def world_of(text):
    """The world of which this is the very text, or None: by a pattern, not sign by sign."""
    rows = [ROW.match(row) for row in text.split("\n")]
    if not all(rows) or len(rows) > 24:
        return None
    steps = [[int(figures) for figures in row.group(3).split(" ")] for row in rows]
    for row in steps:
        if sorted(set(row)) != row or row[-1] >= len(rows):
            return None
    return ([int(row.group(1)) for row in rows], [list(row.group(2)) for row in rows], steps)


def written_anyhow(world):
    """A text for any tuple of the kind of a world, where there is one with its rooms."""
    rows = zip(*world)
    return "\n".join(f"{owner}:{''.join(marks)}:{' '.join(map(str, steps))}" for owner, marks, steps in rows)


def some_worlds():
    small = [world for size in (1, 2) for world in worlds_of(size)] + list(worlds_of(3))[::9]
    great = [make(size) for make in (ring, full) for size in (1, 2, 10, 11, 23, 24)]
    return small + great + [mixed(size, seed) for size in (5, 11, 24) for seed in range(4)] + [HALL]


class Notes(HallCase):
    def looked_at(self, text):
        """A text is read just where it is the very text of a world, and to this world."""
        world = world_of(text)
        if world is None:
            self.refused(NoNote, read, text)
        else:
            self.same(self.ask(read, text), world)
        return world is not None


class Shown(HallCase):
    def test_an_ordinary_world(self):
        self.same(self.ask(shown, HALL), HALL_TEXT)

    def test_the_edges(self):
        self.same(self.ask(shown, ring(1)), "0::0")
        self.same(self.ask(shown, full(1)), "1:abcdef:0")
        self.same(self.ask(shown, ring(24)), "\n".join(f"0::{(room + 1) % 24}" for room in range(24)))
        steps = "0 1 2 3 4 5 6 7 8 9 10 11 12 13 14 15 16 17 18 19 20 21 22 23"
        self.same(self.ask(shown, full(24)), "\n".join(["1:abcdef:" + steps] * 24))

    def test_each_choice_of_marks_and_of_steps(self):
        for marks in some_of(LETTERS):
            self.same(self.ask(shown, ([1], [marks], [[0]])), "1:" + "".join(marks) + ":0")
        for steps in some_of(range(4))[1:]:
            text = "0::3\n1:b:" + " ".join([str(there) for there in steps]) + "\n0::0\n1::1"
            self.same(self.ask(shown, ([0, 1, 0, 1], [[], ["b"], [], []], [[3], steps, [0], [1]])), text)

    def test_lists_that_are_handed_in_twice(self):
        row, way = ["b", "e"], [0, 2]
        self.same(self.ask(shown, ([1, 1, 0], [row, row, row], [way, way, way])), "1:be:0 2\n1:be:0 2\n0:be:0 2")

    def test_no_world(self):
        for wrong, world in wrong_worlds():
            with self.subTest(wrong):
                self.refused(NoWorld, shown, world)


class Read(Notes):
    def test_an_ordinary_text(self):
        self.same(self.ask(read, HALL_TEXT), HALL)

    def test_the_edges(self):
        self.same(self.ask(read, "0::0"), ring(1))
        self.same(self.ask(read, "1:abcdef:0"), full(1))

    def test_what_is_written_is_read_to_the_same_world(self):
        for world in some_worlds():
            text = self.ask(shown, world)
            told = self.ask(read, text)
            self.same(told, world)
            self.assertIs(is_world(*told), True)
            self.same(self.ask(shown, told), text)

    def test_a_sign_more_a_sign_less_or_another_one(self):
        for world in (HALL, ring(1), full(1), full(2), ring(3)):
            for text in texts_beside(shown(world)):
                self.looked_at(text)

    def test_a_sign_more_a_sign_less_or_another_one_in_a_great_text(self):
        for world in (ring(24), mixed(24, 2), ring(11)):
            text = shown(world)
            for other in texts_beside(text, "0:a \n"):
                self.looked_at(other)

    def test_all_short_texts(self):
        found = 0
        for many in range(7):
            for signs in itertools.product("01:a \n", repeat=many):
                text = "".join(signs)
                if many < 5 or text.count(":") > 1:
                    found += self.looked_at(text)
        self.assertEqual(found, 4)

    def test_nothing_and_blanks(self):
        for text in ["", " ", "\n", "\t", "\n\n", ":", "::", ":::", ":\n:", "::\n::", "0", "0:", "0::", "0::\n", "::0"]:
            self.refused(NoNote, read, text)

    def test_a_line_end_or_a_blank_too_many(self):
        texts = ["0::1\n1:a:0 1", "0::1\n\n1:a:0 1", "0::1\n1:a:0 1\n", "\n0::1\n1:a:0 1", " 0::1\n1:a:0 1"]
        texts += ["0::1\n1:a:0 1 ", "0::1\n1:a:0  1", "0::1 \n1:a:0 1", "0::1\n 1:a:0 1", "0 ::1\n1:a:0 1"]
        texts += ["0: :1\n1:a:0 1", "0:: 1\n1:a:0 1", "0::1\n1: a:0 1", "0::1\n1:a :0 1", "0::1\n1:a: 0 1"]
        texts += ["0::1\n1:a:0\n1", "0::1\n1:a:0\t1", "0::1\t1:a:0 1", "0::1 1:a:0 1", "0::1\n1:a:0,1", "0::11:a:0 1"]
        self.assertEqual([self.looked_at(text) for text in texts], [True] + [False] * (len(texts) - 1))

    def test_other_writings_of_numbers(self):
        for figures in ["00", "01", "+0", "-0", "-1", "0_0", "0.0", "0x0", "o", "O", "", "0 0", "00000000000000000000"]:
            self.refused(NoNote, read, f"0::{figures}")
            self.refused(NoNote, read, f"{figures}::0")
        rows = ["0::0"] * 12
        for figures in ["01", "010", "1 02", "00 1", "0 1 02", "12", "-1", "1e1", "1_0", "9" * 59, "9" * 2000]:
            self.refused(NoNote, read, "\n".join(rows[:11] + ["0::" + figures]))
        self.same(self.ask(read, "\n".join(rows[:11] + ["0::10 11"]))[2][11], [10, 11])

    def test_numbers_too_long_for_any_reckoning(self):
        for figures in ("1" * 2990, "0" * 2990, "9" * 5000):
            self.refused(NoNote, read, "0::" + figures)
            self.refused(NoNote, read, figures + "::0")

    def test_marks_twice_out_of_order_or_none(self):
        for marks in ["aa", "ba", "aba", "abca", "abcdeff", "fedcba", "g", "A", "a b", "a,b", "0", "abcdefg", "`", "-"]:
            self.refused(NoNote, read, f"0:{marks}:0")
            self.refused(NoNote, read, f"0:a:1\n1:{marks}:0 1")

    def test_each_text_of_two_marks(self):
        for one in LETTERS + "gA":
            for other in LETTERS + "gA":
                self.assertEqual(self.looked_at(f"1:{one}{other}:0"), one < other and one in LETTERS and other in LETTERS)

    def test_the_texts_of_worlds_that_are_none(self):
        count = 0
        for wrong, world in wrong_worlds():
            if len({len(rows) for rows in world}) == 1 and wrong not in ("mark of two letters", "mark of all letters"):
                # An empty text of a mark leaves nothing behind, so that text is one of another world.
                if "empty mark" not in wrong:
                    with self.subTest(wrong):
                        self.refused(NoNote, read, written_anyhow(world))
                        count += 1
        self.assertGreater(count, 25)

    def test_25_rooms_and_more(self):
        for size in (25, 26, 48, 120):
            self.refused(NoNote, read, "\n".join(["0::0"] * size))
        self.same(self.ask(read, "\n".join(["0::0"] * 24)), ([0] * 24, [[] for _ in range(24)], [[0] for _ in range(24)]))

    def test_long_texts(self):
        for sign in "0:a \n~":
            self.refused(NoNote, read, sign * 3000)
        self.refused(NoNote, read, "0::0\n" * 600)
        self.refused(NoNote, read, "0::" + "0 " * 1498 + "0")


if __name__ == "__main__":
    unittest.main()
