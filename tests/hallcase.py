"""What all tests share: point [1] is looked after at each call, and worlds are made to ask of."""

import copy
import itertools
import unittest

from foreseehall.errors import HallError

LETTERS = "abcdef"


def lists_in(value):
    """All lists within a value, itself too, one entry for each place where one stands."""
    found = [value] if isinstance(value, list) else []
    if isinstance(value, (list, tuple)):
        for entry in value:
            found = found + lists_in(entry)
    return found


def spoil(value):
    for entries in lists_in(value):
        entries.append("spoiled")
        entries.reverse()


def ring(size):
    """A world whose rooms go round, each with one step, no marks, all of player 0."""
    return ([0] * size, [[] for _ in range(size)], [[(room + 1) % size] for room in range(size)])


def full(size):
    """A world with all steps and all marks, all of player 1."""
    return ([1] * size, [list(LETTERS) for _ in range(size)], [list(range(size)) for _ in range(size)])


def some_of(entries):
    """All choices of some entries, none among them, each as a list in the same order."""
    entries = list(entries)
    return [
        [entry for place, entry in enumerate(entries) if choice >> place & 1] for choice in range(2 ** len(entries))
    ]


def worlds_of(size):
    """A world for each way in which steps may lead, with owners and marks that change from one to the next."""
    rows = [row for row in some_of(range(size)) if row]
    for number, steps in enumerate(itertools.product(rows, repeat=size)):
        owners = [number // 3 + room & 1 for room in range(size)]
        marks = [[letter for k, letter in enumerate(LETTERS) if number + room * 5 >> k & 1] for room in range(size)]
        yield (owners, marks, [list(row) for row in steps])


def mixed(size, seed):
    """A world of any size with steps that go here and there; the same one for the same seed."""
    state = seed * 7919 + size
    owners, marks, steps = [], [], []
    for room in range(size):
        state = (state * 1103515245 + 12345) % 2 ** 31
        owners.append(state >> 20 & 1)
        marks.append([letter for k, letter in enumerate(LETTERS) if state >> k + 8 & 1])
        steps.append(sorted({(state >> 5) % size, (state >> 11) % size, (state >> 17) % size}))
    return (owners, marks, steps)


def wrong_worlds():
    """Tuples of the kind of a world that are none, each with what is wrong with it."""
    far = 10 ** 59
    return [
        ("no rooms", ([], [], [])),
        ("25 rooms", ring(25)),
        ("26 rooms, all steps", full(26)),
        ("120 rooms", ring(120)),
        ("owners too few", ([0], [[], []], [[0], [1]])),
        ("owners too many", ([0, 0, 0], [[], []], [[0], [1]])),
        ("no owners", ([], [[]], [[0]])),
        ("marks too few", ([0, 0], [[]], [[0], [1]])),
        ("marks too many", ([0, 0], [[], [], []], [[0], [1]])),
        ("no marks' list", ([0], [], [[0]])),
        ("steps too few", ([0, 0], [[], []], [[0]])),
        ("steps too many", ([0, 0], [[], []], [[0], [1], [0]])),
        ("no steps' list", ([0], [[]], [])),
        ("owner 2", ([2], [[]], [[0]])),
        ("owner below 0", ([-1], [[]], [[0]])),
        ("last owner 2", ([0, 1, 2], [[], [], []], [[0], [1], [2]])),
        ("far owner", ([far], [[]], [[0]])),
        ("owner far below 0", ([-far], [[]], [[0]])),
        ("mark g", ([0], [["g"]], [[0]])),
        ("mark behind f", ([0], [["a", "g"]], [[0]])),
        ("great letter", ([0], [["A"]], [[0]])),
        ("empty mark", ([0], [[""]], [[0]])),
        ("empty mark ahead", ([0], [["", "a"]], [[0]])),
        ("mark of two letters", ([0], [["ab"]], [[0]])),
        ("mark of a letter twice", ([0], [["aa"]], [[0]])),
        ("mark of all letters", ([0], [["abcdef"]], [[0]])),
        ("mark of another sign", ([0], [["`"]], [[0]])),
        ("blank mark", ([0], [[" "]], [[0]])),
        ("mark with a line end", ([0], [["a\n"]], [[0]])),
        ("mark twice", ([0], [["a", "a"]], [[0]])),
        ("last mark twice", ([0], [["a", "b", "f", "f"]], [[0]])),
        ("marks out of order", ([0], [["b", "a"]], [[0]])),
        ("last marks out of order", ([0], [["a", "c", "b"]], [[0]])),
        ("wrong mark in the last room", ([0, 0], [["a"], ["b", "a"]], [[0], [1]])),
        ("no steps", ([0], [[]], [[]])),
        ("no steps from the last room", ([0, 0], [[], []], [[0, 1], []])),
        ("step beyond", ([0], [[]], [[1]])),
        ("step beyond, behind another", ([0, 0], [[], []], [[0, 2], [1]])),
        ("step beyond in the last room", ([0, 0], [[], []], [[1], [1, 2]])),
        ("step far beyond", ([0], [[]], [[far]])),
        ("step below 0", ([0], [[]], [[-1]])),
        ("step below 0, ahead of another", ([0, 0], [[], []], [[-1, 0], [1]])),
        ("step far below 0", ([0], [[]], [[-far]])),
        ("step twice", ([0], [[]], [[0, 0]])),
        ("last step twice", ([0, 0], [[], []], [[0, 1, 1], [1]])),
        ("steps out of order", ([0, 0], [[], []], [[1, 0], [1]])),
        ("steps out of order in the last room", ([0, 0, 0], [[], [], []], [[0], [1], [0, 2, 1]])),
    ]


WRONG_WORLD = ([0], [[]], [[1]])
WRONG_ROOMS = [-1, -2, -24, -(10 ** 59), 24, 25, 10 ** 59]
WRONG_MARKS = ["", "g", "A", "F", "ab", "aa", "abcdef", "bc", "a ", " a", " ", "\n", "a\n", "`", "0", "mark", "b" * 3000]


class HallCase(unittest.TestCase):
    def same(self, told, asked):
        """Alike to the kinds of all within: no True for 1, no tuple for a list."""
        self.assertEqual(repr(told), repr(asked))

    def ask(self, function, *handed):
        """What a function tells; on the way, all that point [1] says of any call."""
        ahead = copy.deepcopy(handed)
        first = function(*handed)
        second = function(*handed)
        self.same(handed, ahead)
        self.same(first, second)
        self.no_list_is_shared([first, second], handed)
        answer = copy.deepcopy(first)
        spoil(first)
        self.same(handed, ahead)
        self.same(second, answer)
        self.same(function(*handed), answer)
        self.nothing_hangs_on_what_was_handed_in(function, ahead, answer)
        return answer

    def no_list_is_shared(self, told, handed):
        # Lists that were handed in may be one another's, those that are told not.
        names = [id(entries) for value in told for entries in lists_in(value)]
        self.assertEqual(len(names), len(set(names)))
        self.assertEqual(set(names) & {id(entries) for entries in lists_in(handed)}, set())

    def nothing_hangs_on_what_was_handed_in(self, function, ahead, answer):
        handed = copy.deepcopy(ahead)
        told = function(*handed)
        spoil(handed)
        self.same(told, answer)
        self.same(function(*copy.deepcopy(ahead)), answer)

    def refused(self, kind, function, *handed):
        """It is refused with just this class, time and again, and nothing handed in is changed."""
        ahead = copy.deepcopy(handed)
        for taken in (kind, HallError, ValueError, kind):
            with self.assertRaises(taken) as caught:
                function(*handed)
            self.assertIs(type(caught.exception), kind)
        self.same(handed, ahead)
