"""Point [42]: where a sentence holds in worlds that are made of worlds."""

import itertools
import unittest

from foreseehall.building import beside, handed_over, part, renamed, together
from foreseehall.judgepapers import is_paper, paper
from foreseehall.judging import holds
from foreseehall.sentences import marks_of
from foreseehall.worlds import reached
from hallcase import (
    ONE_PART, TWO_PARTS, YES, A, B, C, HallCase, chain, full, mixed, mixed_sentence, ring, sentences_of,
    worlds_for_sentences,
)

HALL = ([0, 1, 0, 1], [["a"], ["a", "b"], ["b"], ["c"]], [[0, 1], [2], [0, 3], [3]])


def some_worlds():
    return worlds_for_sentences()[::2] + [HALL, ring(1), ring(5), full(3), mixed(6, 1), mixed(11, 2)]


def great_worlds():
    return [ring(24), full(24), mixed(24, 1), mixed(23, 4)]


def some_sentences():
    small = sentences_of(2, [YES, A]) + [(word, one, other) for word in TWO_PARTS for one, other in [(A, B), (B, A), (YES, C)]]
    of_not = [(word, ("not", A)) for word in ONE_PART]
    return small + of_not + [mixed_sentence(many, many) for many in (5, 8, 13, 21)] + [chain("all until", 9)]


def some_orders(size):
    rooms = list(range(size))
    if size < 4:
        return [list(order) for order in itertools.permutations(rooms)]
    return [rooms, rooms[::-1], rooms[1:] + rooms[:1], rooms[::2] + rooms[1::2], rooms[2:] + [rooms[1], rooms[0]]]


class BetweenTheParts(HallCase):
    def test_in_the_part_that_is_reached(self):
        for world in some_worlds() + great_worlds():
            for room in range(0, len(world[0]), 1 + len(world[0]) // 9):
                rooms = reached(world, room)
                smaller = part(world, rooms)
                for sentence in some_sentences():
                    told = [rooms[number] for number in holds(smaller, sentence)]
                    self.same(told, [here for here in holds(world, sentence) if here in rooms])

    def test_beside_another(self):
        for one in some_worlds():
            for other in some_worlds()[::3] + [ring(13), full(13)]:
                both = beside(one, other)
                size = len(one[0])
                for sentence in some_sentences()[::3]:
                    told = holds(one, sentence) + [size + room for room in holds(other, sentence)]
                    self.same(holds(both, sentence), told)

    def test_the_greatest_beside_one_another(self):
        for one, other in [(ring(12), full(12)), (mixed(23, 1), ring(1)), (full(1), mixed(23, 2))]:
            size = len(one[0])
            for sentence in some_sentences():
                told = holds(one, sentence) + [size + room for room in holds(other, sentence)]
                self.same(self.ask(holds, beside(one, other), sentence), told)

    def test_renamed(self):
        for world in some_worlds() + great_worlds():
            for order in some_orders(len(world[0])):
                other = renamed(world, order)
                for sentence in some_sentences()[::2]:
                    rooms = holds(world, sentence)
                    self.same(holds(other, sentence), [place for place, room in enumerate(order) if room in rooms])

    def test_handed_over(self):
        for world in some_worlds() + great_worlds():
            for sentence in some_sentences():
                self.same(holds(handed_over(world), sentence), holds(world, sentence))

    def test_a_paper_is_right_in_the_world_that_is_handed_over(self):
        for world in some_worlds():
            for sentence in some_sentences()[::3]:
                self.assertIs(is_paper(handed_over(world), sentence, paper(world, sentence)), True)

    def test_together_with_another(self):
        seconds = [ring(1), ring(2), full(2), mixed(3, 1), ([0, 1], [["d"], ["e", "f"]], [[1], [0, 1]])]
        for one in some_worlds():
            for other in seconds:
                if len(one[0]) * len(other[0]) <= 24:
                    self.holds_as_in_the_first(one, other)

    def holds_as_in_the_first(self, one, other):
        names = {letter for row in other[1] for letter in row}
        width = len(other[0])
        both = together(one, other)
        for sentence in some_sentences():
            if not names & set(marks_of(sentence)):
                rooms = holds(one, sentence)
                told = [room * width + second for room in rooms for second in range(width)]
                self.same(holds(both, sentence), told)

    def test_together_with_many_rooms_and_none_of_the_marks(self):
        other = ([0, 1, 0], [["d"], ["e"], ["d", "f"]], [[1, 2], [0], [2]])
        for one in (mixed(8, 1), ring(8), ([0] * 8, [["a"] if room % 3 else ["b"] for room in range(8)], ring(8)[2])):
            one = (one[0], [[letter for letter in row if letter in "abc"] for row in one[1]], one[2])
            for sentence in [("some until", A, B), ("all until", A, B), ("some always", A), ("all always", ("or", A, B))]:
                rooms = holds(one, sentence)
                told = [room * 3 + second for room in rooms for second in range(3)]
                self.same(self.ask(holds, together(one, other), sentence), told)

    def test_together_a_mark_of_the_second_one_may_change_it(self):
        both = together(ring(1), ([0, 0], [["a"], []], [[1], [1]]))
        self.same(self.ask(holds, both, A), [0])
        self.same(self.ask(holds, ring(1), A), [])


if __name__ == "__main__":
    unittest.main()
