"""foreseehall.ways: points [1] and [18] to [20], and the interface's section of that name."""

import itertools
import unittest

from foreseehall.errors import NoRoom, NoSentence, NoWay, NoWorld
from foreseehall.judging import holds
from foreseehall.ways import is_way, room_at, short, way_for, way_shows
from hallcase import (
    FAR, NEVER, WRONG_ROOMS, WRONG_WORLD, YES, A, B, C, HallCase, along, chain, full, many_leaves, mixed, mixed_sentence,
    plain, ring, sentences_of, tree, truths, worlds_for_sentences, worlds_of, wrong_sentences, wrong_worlds,
)

OF_SOME = ["some next", "some until", "some always"]
OF_ALL = ["all next", "all until", "all always"]

# From 0 one may stay or go to 1, from there only to 2, and from 2 back to 0 or to 3, where one stays.
HALL = ([0, 1, 0, 1], [["a"], ["a"], ["b"], []], [[0, 1], [2], [0, 3], [3]])

WAYS = [([], [0]), ([], [0, 1, 2]), ([0, 0], [1, 2, 0]), ([0, 1, 2], [3]), ([], [3]), ([1], [2, 0, 0, 1]), ([2, 3], [3, 3])]

# Fronts and rings that are no way through HALL.
NO_WAYS = [
    ([], []), ([0], []), ([0, 1, 2, 3], []), ([], [1]), ([], [0, 1]), ([], [2, 1]), ([], [0, 2]), ([1], [0]), ([3], [0]),
    ([0, 2], [3]), ([0, 1], [3]), ([0, 1, 3], [3]), ([2], [1, 2, 0]), ([0], [2, 0, 1]), ([], [0, 1, 2, 3]), ([], [4]),
    ([], [-1]), ([-1], [3]), ([4], [3]), ([], [3, -1]), ([], [-1, -1]), ([], [-2, -1]), ([], [-4]), ([-4], [0]),
    ([], [0, 4]), ([], [FAR]), ([], [-FAR]), ([FAR], [3]), ([-FAR], [0]), ([0, -3, 2], [3]), ([0] * 60, [3]),
    ([0] * 60, []), ([4] * 60, [4] * 60), ([0] * 59 + [2], [3] * 60), ([3] * 60, [3] * 59 + [0]), ([], [-1] * 60),
]


def goes(world, way):
    """Point [18], word by word, for more than once round."""
    front, around = way
    if not around or not all(0 <= room < len(world[0]) for room in front + around):
        return False
    rooms = along(way, len(front) + 2 * len(around) + 1)
    return all(there in world[2][here] for here, there in zip(rooms, rooms[1:]))


def some_ways(world, longest=2, widest=3):
    """All ways through a world whose front and ring are not longer than told."""
    rooms = range(len(world[0]))
    for before, behind in itertools.product(range(longest + 1), range(1, widest + 1)):
        for front in itertools.product(rooms, repeat=before):
            for around in itertools.product(rooms, repeat=behind):
                if goes(world, (front, around)):
                    yield (list(front), list(around))


def told_otherwise(way):
    """The same way told in other forms, more of the ring in the front, and the ring more than once."""
    front, around = way
    for more, times in itertools.product((0, 1, 2, 3, 5, 8), (1, 2, 3, 4)):
        rooms = along(way, len(front) + more)
        yield (rooms, along(([], around[more % len(around):] + around[:more % len(around)]), times * len(around)))


def shortest(way):
    """The short form, found by trying rings and fronts from the shortest on."""
    front, around = way
    far = 3 * (len(front) + 2 * len(around))
    rooms = along(way, far)
    for length in range(1, len(around) + 1):
        for start in range(len(front) + 1):
            told = (rooms[:start], rooms[start:start + length])
            if along(told, far) == rooms:
                return told


def shows(sentence, way, parts):
    """Point [19], word by word; parts are told by a list of True and False for each room."""
    rooms = along(way, 2 * (len(way[0]) + len(way[1])))
    word, first = sentence[0], parts[0]
    if word.endswith("next"):
        return first[rooms[1]] == word.startswith("some")
    if word.endswith("until"):
        places = [place for place, room in enumerate(rooms) if parts[1][room]]
        is_so = any(all(first[room] for room in rooms[:place]) for place in places)
        return is_so == word.startswith("some")
    return all(first[room] for room in rooms) == word.startswith("some")


def six_of(one, other):
    return [(word, one, other) if word.endswith("until") else (word, one) for word in OF_SOME + OF_ALL]


def sentences_of_time():
    found = six_of(A, B) + six_of(("not", A), A) + six_of(("or", A, B), C) + six_of(YES, B) + six_of(NEVER, NEVER)
    return found + six_of(("some next", A), ("all always", B)) + six_of(mixed_sentence(7, 3), mixed_sentence(6, 1))


class IsWay(HallCase):
    def test_ordinary_ways(self):
        for way in WAYS:
            self.assertIs(self.ask(is_way, HALL, way), True)

    def test_fronts_and_rings_that_are_no_way(self):
        for way in NO_WAYS:
            self.assertIs(self.ask(is_way, HALL, way), False)

    def test_worlds_of_one_room(self):
        for world in (ring(1), full(1)):
            for many, times in itertools.product((0, 1, 2, 60), (1, 2, 60)):
                self.assertIs(self.ask(is_way, world, ([0] * many, [0] * times)), True)
            for way in [([], []), ([0], []), ([], [1]), ([1], [0]), ([-1], [0]), ([], [0, -1]), ([0, 1], [0])]:
                self.assertIs(self.ask(is_way, world, way), False)

    def test_a_ring_of_24(self):
        rooms = list(range(24))
        for way in [([], rooms), (rooms, rooms), ([23], rooms), (rooms[7:], rooms + rooms), ([], rooms[5:] + rooms[:5])]:
            self.assertIs(self.ask(is_way, ring(24), way), True)
        for way in [([], rooms[:-1]), ([], rooms[1:]), ([0], rooms), (rooms[:-1], rooms), ([], rooms[::-1]), ([], rooms + [0])]:
            self.assertIs(self.ask(is_way, ring(24), way), False)
        self.assertIs(self.ask(is_way, full(24), (rooms[::-1], rooms + [3, 3])), True)

    def test_the_step_behind_the_front_and_that_behind_the_ring_are_asked_for(self):
        world = ([0, 0, 0], [[], [], []], [[1], [2], [1]])
        self.assertIs(self.ask(is_way, world, ([0], [1, 2])), True)
        self.assertIs(self.ask(is_way, world, ([0], [2, 1])), False)
        self.assertIs(self.ask(is_way, world, ([], [0, 1, 2])), False)
        self.assertIs(self.ask(is_way, world, ([0], [1])), False)

    def test_all_short_fronts_and_rings(self):
        for world in list(worlds_of(1)) + list(worlds_of(2)) + list(worlds_of(3))[::31]:
            numbers = range(-1, len(world[0]) + 1)
            for before, behind in itertools.product(range(3), range(3)):
                for front in itertools.product(numbers, repeat=before):
                    for around in itertools.product(numbers, repeat=behind):
                        way = (list(front), list(around))
                        self.assertIs(is_way(world, way), goes(world, way))

    def test_no_world(self):
        for wrong, world in wrong_worlds():
            with self.subTest(wrong):
                self.refused(NoWorld, is_way, world, ([], [0]))
                self.refused(NoWorld, is_way, world, ([], []))


class RoomAt(HallCase):
    def test_the_first_places(self):
        for way in WAYS:
            for place, room in enumerate(along(way, 30)):
                self.same(self.ask(room_at, HALL, way, place), room)

    def test_places_of_many_figures(self):
        way = ([0, 0], [1, 2, 0])
        for place in (10 ** 59, 10 ** 60 - 1, 10 ** 59 + 1, 10 ** 59 + 2, 2 ** 190, 10 ** 18):
            self.same(self.ask(room_at, HALL, way, place), [1, 2, 0][(place - 2) % 3])
        # 10 ** 59 leaves 1 by three, and two of its steps are in the front.
        self.same(room_at(HALL, way, 10 ** 59), 0)
        for place in (10 ** 60 - 1, 10 ** 59, 7):
            self.same(self.ask(room_at, ring(24), ([22, 23], list(range(24))), place), (place - 2) % 24)
            self.same(self.ask(room_at, ring(1), ([], [0]), place), 0)

    def test_the_last_room_of_the_front_and_the_first_one_of_the_ring(self):
        way = ([0, 1, 2], [3])
        self.same([room_at(HALL, way, place) for place in range(6)], [0, 1, 2, 3, 3, 3])
        way = ([], [0, 1, 2])
        self.same([room_at(HALL, way, place) for place in range(7)], [0, 1, 2, 0, 1, 2, 0])

    def test_refusals(self):
        for place in (-1, -2, -3, -FAR, -(10 ** 60) + 1):
            self.refused(NoRoom, room_at, HALL, WAYS[1], place)
            self.refused(NoRoom, room_at, HALL, ([], []), place)
            self.refused(NoWorld, room_at, WRONG_WORLD, ([], [0]), place)
            self.refused(NoWorld, room_at, WRONG_WORLD, ([], []), place)
        for way in NO_WAYS:
            for place in (0, 1, 2, FAR):
                self.refused(NoWay, room_at, HALL, way, place)
        for wrong, world in wrong_worlds():
            with self.subTest(wrong):
                self.refused(NoWorld, room_at, world, ([], [0]), 0)


class Short(HallCase):
    def shortened(self, world, way):
        told = self.ask(short, world, way)
        self.same(told, shortest(way))
        self.assertIs(is_way(world, told), True)
        return told

    def test_ordinary_ways(self):
        self.same(self.shortened(HALL, ([0, 0], [1, 2, 0])), ([0], [0, 1, 2]))
        self.same(self.shortened(HALL, ([0, 1, 2], [3])), ([0, 1, 2], [3]))
        self.same(self.shortened(HALL, ([0, 1, 2, 3, 3], [3, 3, 3])), ([0, 1, 2], [3]))
        self.same(self.shortened(HALL, ([0, 1, 2], [0, 1, 2, 0, 1, 2])), ([], [0, 1, 2]))
        self.same(self.shortened(HALL, ([2, 0], [1, 2, 0, 1, 2, 0])), ([], [2, 0, 1]))
        self.same(self.shortened(HALL, ([1], [2, 0, 0, 1])), ([], [1, 2, 0, 0]))

    def test_a_ring_with_a_room_twice_stays(self):
        self.same(self.shortened(HALL, ([], [0, 0, 1, 2])), ([], [0, 0, 1, 2]))
        self.same(self.shortened(HALL, ([], [0, 0, 1, 2, 0, 1, 2])), ([], [0, 0, 1, 2, 0, 1, 2]))
        self.same(self.shortened(full(3), ([], [0, 1, 0, 1, 0])), ([], [0, 1, 0, 1, 0]))
        self.same(self.shortened(full(3), ([], [0, 1, 0, 1, 0, 1])), ([], [0, 1]))
        self.same(self.shortened(full(3), ([], [0, 1, 2, 0, 1, 2, 0, 1])), ([], [0, 1, 2, 0, 1, 2, 0, 1]))
        self.same(self.shortened(full(3), ([], [0, 0, 1, 0, 0, 1])), ([], [0, 0, 1]))

    def test_a_front_that_only_looks_like_the_ring(self):
        self.same(self.shortened(full(3), ([1, 0], [1, 2])), ([1, 0], [1, 2]))
        self.same(self.shortened(full(3), ([0, 2, 2], [1, 2])), ([0, 2], [2, 1]))
        self.same(self.shortened(full(3), ([1, 2, 0, 1, 2], [1, 2])), ([1, 2, 0], [1, 2]))

    def test_a_way_told_otherwise_has_the_same_short_form(self):
        for way in WAYS + [([0, 0, 0, 1], [2, 0, 0, 1])]:
            told = self.shortened(HALL, way)
            for other in told_otherwise(way):
                self.assertEqual(along(other, 90), along(way, 90))
                self.same(short(HALL, other), told)
        rooms = list(range(24))
        for other in told_otherwise(([], rooms)):
            self.same(self.ask(short, ring(24), other), ([], rooms))

    def test_the_edges(self):
        for many, times in itertools.product((0, 1, 60), (1, 2, 59, 60)):
            self.same(self.shortened(ring(1), ([0] * many, [0] * times)), ([], [0]))
        self.same(self.shortened(ring(24), ([23] + list(range(24)), list(range(24)) * 2)), ([], [23] + list(range(23))))
        self.same(self.shortened(full(2), ([0] * 60, [1] * 60)), ([0] * 60, [1]))
        self.same(self.shortened(full(2), ([0, 1] * 30, [0, 1] * 30)), ([], [0, 1]))
        self.same(self.shortened(full(2), ([0, 1] * 30, [0, 1] * 29 + [0, 0])), ([0, 1] * 30, [0, 1] * 29 + [0, 0]))

    def test_all_short_ways(self):
        for world in [full(1), full(2), HALL, full(3)]:
            for way in some_ways(world, 3, 4):
                self.same(short(world, way), shortest(way))

    def test_the_short_form_stays(self):
        for way in some_ways(full(2), 3, 4):
            told = short(full(2), way)
            self.same(self.ask(short, full(2), told), told)

    def test_a_list_that_stands_in_both_places(self):
        rooms = [0, 1, 2]
        self.same(self.ask(short, HALL, (rooms, rooms)), ([], [0, 1, 2]))

    def test_refusals(self):
        for way in NO_WAYS:
            self.refused(NoWay, short, HALL, way)
            self.refused(NoWorld, short, WRONG_WORLD, way)
        for wrong, world in wrong_worlds():
            with self.subTest(wrong):
                self.refused(NoWorld, short, world, ([], [0]))


class WayShows(HallCase):
    def test_nexts_look_at_the_second_room(self):
        for way, second in [(([], [0]), 0), (([0], [1, 2, 0]), 1), (([2], [3]), 3), (([], [1, 2, 0]), 2), (([], [3]), 3)]:
            for part, rooms in [(A, [0, 1]), (B, [2]), (YES, [0, 1, 2, 3]), (NEVER, [])]:
                self.assertIs(self.ask(way_shows, HALL, ("some next", part), way), second in rooms)
                self.assertIs(self.ask(way_shows, HALL, ("all next", part), way), second not in rooms)

    def test_untils(self):
        for way, is_so in [(([], [0]), False), (([0, 0], [1, 2, 0]), True), (([2], [3]), True), (([], [3]), False)]:
            self.assertIs(self.ask(way_shows, HALL, ("some until", A, B), way), is_so)
            self.assertIs(self.ask(way_shows, HALL, ("all until", A, B), way), not is_so)
        way = ([0, 1, 2], [3])
        for one, other, is_so in [(A, ("not", ("or", A, B)), False), (("or", A, B), C, False), (YES, NEVER, False)]:
            self.assertIs(self.ask(way_shows, HALL, ("some until", one, other), way), is_so)
            self.assertIs(self.ask(way_shows, HALL, ("all until", one, other), way), not is_so)
        for one, other in [(NEVER, A), (A, B), (("or", A, B), ("not", ("or", A, B))), (YES, ("not", A)), (NEVER, YES)]:
            self.assertIs(self.ask(way_shows, HALL, ("some until", one, other), way), True)
            self.assertIs(self.ask(way_shows, HALL, ("all until", one, other), way), False)

    def test_the_second_part_far_on_in_the_ring(self):
        owners, marks, steps = ring(24)
        marks = [["a"] for _ in range(24)]
        marks[23] = ["b"]
        world = (owners, marks, steps)
        rooms = list(range(24))
        for way in [([], rooms), (rooms[:9], rooms[9:] + rooms[:9]), (rooms, rooms)]:
            self.assertIs(self.ask(way_shows, world, ("some until", A, B), way), True)
            self.assertIs(self.ask(way_shows, world, ("some always", A), way), False)
            self.assertIs(self.ask(way_shows, world, ("all always", A), way), True)
            self.assertIs(self.ask(way_shows, world, ("some always", ("or", A, B)), way), True)
            self.assertIs(self.ask(way_shows, world, ("all always", ("or", A, B)), way), False)
            self.assertIs(self.ask(way_shows, world, ("some until", ("not", B), B), way), True)
            self.assertIs(self.ask(way_shows, world, ("all until", NEVER, B), way), True)

    def test_always_asks_in_front_and_ring(self):
        for way, is_so in [(([], [0]), True), (([0, 0], [0]), True), (([0, 1, 2], [3]), False), (([2], [0]), False)]:
            self.assertIs(self.ask(way_shows, HALL, ("some always", A), way), is_so)
            self.assertIs(self.ask(way_shows, HALL, ("all always", A), way), not is_so)

    def test_it_is_one_way_that_shows_not_the_rooms_from_which_it_goes(self):
        # At room 0 both hold, but this way stays there.
        self.assertIn(0, holds(HALL, ("some until", A, B)))
        self.assertIs(self.ask(way_shows, HALL, ("some until", A, B), ([], [0])), False)
        self.assertIs(self.ask(way_shows, HALL, ("some always", A), ([0], [1, 2, 0])), False)

    def test_small_ways_in_small_worlds(self):
        for world in worlds_for_sentences()[::3] + [HALL]:
            ways = list(some_ways(world))[::5]
            for sentence in sentences_of_time():
                parts = [truths(world, part) for part in sentence[1:]]
                for way in ways:
                    self.assertIs(way_shows(world, sentence, way), shows(sentence, way, parts))

    def test_what_is_shown_is_so(self):
        for world in worlds_for_sentences()[1::4]:
            for sentence in sentences_of_time():
                rooms = holds(world, sentence)
                for way in some_ways(world, 1, 3):
                    if way_shows(world, sentence, way):
                        self.assertIs(along(way, 1)[0] in rooms, sentence[0] in OF_SOME)

    def test_the_greatest_sentences(self):
        wide = [tree(word, many_leaves(100)) for word in ("some until", "all until")]
        for sentence in [chain(word, 23) for word in OF_SOME + OF_ALL] + wide:
            parts = [[room in holds(HALL, part) for room in range(4)] for part in sentence[1:]]
            for way in WAYS:
                self.assertIs(self.ask(way_shows, HALL, sentence, way), shows(sentence, way, parts))

    def test_refusals(self):
        for way in NO_WAYS:
            for sentence in six_of(A, B):
                self.refused(NoWay, way_shows, HALL, sentence, way)
        for wrong, world in wrong_worlds():
            with self.subTest(wrong):
                self.refused(NoWorld, way_shows, world, ("some next", A), ([], [0]))
                self.refused(NoWorld, way_shows, world, A, ([], []))

    def test_sentences_of_other_kinds(self):
        for sentence in other_kinds():
            for way in (WAYS[1], NO_WAYS[0], NO_WAYS[4]):
                self.refused(NoSentence, way_shows, HALL, sentence, way)
                self.refused(NoWorld, way_shows, WRONG_WORLD, sentence, way)


def other_kinds():
    """Sentences that no way shows, and such as are none."""
    kinds = [YES, A, NEVER, ("not", ("some next", A)), ("and", ("some next", A), ("some next", B)), ("or", A, B)]
    wrong = [some for told, some in wrong_sentences()]
    return kinds + wrong + [("not", ("all always", A)), ("and", ("all until", A, B), YES), chain("not", 23)]


class WayFor(HallCase):
    def told(self, world, sentence, room):
        front, around = way = self.ask(way_for, world, sentence, room)
        self.assertIsInstance(way, tuple)
        self.assertIs(goes(world, way), True)
        self.assertEqual(along(way, 1), [room])
        self.assertLessEqual(max(len(front), len(around)), 2 * len(world[0]))
        self.assertIs(way_shows(world, sentence, way), True)
        return way

    def looked_at(self, world, sentence, rooms):
        """For each room a way is told that shows the sentence, or none, by the rooms where it holds."""
        for room in range(len(world[0])):
            if (room in rooms) == (sentence[0] in OF_SOME):
                way = self.told(world, sentence, room)
                parts = [[each in holds(world, part) for each in range(len(world[0]))] for part in sentence[1:]]
                self.assertIs(shows(sentence, way, parts), True)
            else:
                self.refused(NoWay, way_for, world, sentence, room)

    def test_ordinary_rooms(self):
        for sentence, rooms in [
            (("some next", B), [1]),
            (("all next", B), [1]),
            (("some until", A, B), [0, 1, 2]),
            (("all until", A, B), [1, 2]),
            (("some always", A), [0]),
            (("all always", A), []),
            (("all always", ("not", ("or", A, B))), [3]),
        ]:
            self.same(holds(HALL, sentence), rooms)
            self.looked_at(HALL, sentence, rooms)

    def test_small_worlds(self):
        for world in worlds_for_sentences()[::3]:
            for sentence in sentences_of_time():
                self.looked_at(world, sentence, [room for room, is_so in enumerate(truths(world, sentence)) if is_so])

    def test_all_worlds_of_three_rooms(self):
        for world in [plain(world, "ab") for world in list(worlds_of(3))[::5]]:
            for sentence in six_of(A, B) + six_of(("not", B), A):
                rooms = [room for room, is_so in enumerate(truths(world, sentence)) if is_so]
                for room in range(3):
                    if (room in rooms) == (sentence[0] in OF_SOME):
                        way = way_for(world, sentence, room)
                        self.assertIs(goes(world, way) and way_shows(world, sentence, way), True)
                        self.assertEqual(along(way, 1), [room])
                    else:
                        self.assertRaises(NoWay, way_for, world, sentence, room)

    def test_the_edges(self):
        for world in (ring(1), full(1), ring(2), full(2), ring(24), plain(mixed(24, 2), "ab")):
            for sentence in six_of(A, B) + six_of(("not", A), A) + six_of(YES, NEVER):
                self.looked_at(world, sentence, holds(world, sentence))
        for sentence in six_of(A, B):
            self.looked_at(full(24), sentence, holds(full(24), sentence))

    def test_a_ring_of_24_with_the_goal_behind_the_room(self):
        owners, marks, steps = ring(24)
        marks[0], marks[1] = ["b"], ["a"]
        world = (owners, marks, steps)
        for sentence in [("some until", YES, B), ("all always", ("not", B)), ("some next", A), ("all next", ("not", A))]:
            self.looked_at(world, sentence, holds(world, sentence))
        self.same(self.told(world, ("some until", YES, B), 1), ([], list(range(1, 24)) + [0]))

    def test_where_the_goal_is_once_and_then_no_more(self):
        # A row of rooms, at whose end one stays, with the goal just ahead of it.
        steps = [[min(room + 1, 23)] for room in range(24)]
        world = ([0] * 24, [["b"] if room == 22 else ["a"] for room in range(24)], steps)
        for sentence in six_of(A, B) + six_of(("not", B), B):
            self.looked_at(world, sentence, holds(world, sentence))
        self.same(self.told(world, ("some until", A, B), 0), (list(range(23)), [23]))

    def test_a_way_may_come_back_to_its_first_room(self):
        world = ([0, 0], [["a"], ["b"]], [[1], [0]])
        self.same(self.told(world, ("some next", B), 0), ([], [0, 1]))
        self.same(self.told(world, ("all always", A), 0), ([], [0, 1]))

    def test_an_all_until_that_ends_where_neither_part_holds(self):
        # On from 1 the second part holds, but at 1 it is too late.
        world = ([0, 0, 0], [["a"], [], ["b"]], [[1, 2], [2], [2]])
        self.looked_at(world, ("all until", A, B), [2])
        self.same(self.told(world, ("all until", A, B), 0), ([0, 1], [2]))

    def test_great_sentences(self):
        for sentence in six_of(tree("and", many_leaves(49)), tree("or", many_leaves(49))):
            self.looked_at(mixed(12, 3), sentence, holds(mixed(12, 3), sentence))
        for word in OF_SOME + OF_ALL:
            self.looked_at(HALL, chain(word, 23), holds(HALL, chain(word, 23)))

    def test_refusals(self):
        for sentence in six_of(A, B):
            for room in WRONG_ROOMS + [4]:
                self.refused(NoRoom, way_for, HALL, sentence, room)
                self.refused(NoWorld, way_for, WRONG_WORLD, sentence, room)
        for sentence in other_kinds():
            for room in (0, 3, 4, -1):
                self.refused(NoSentence, way_for, HALL, sentence, room)
            self.refused(NoWorld, way_for, WRONG_WORLD, sentence, 0)
        for wrong, world in wrong_worlds():
            with self.subTest(wrong):
                self.refused(NoWorld, way_for, world, ("some next", YES), 0)

    def test_all_sentences_of_few_words(self):
        for many in (2, 3):
            for sentence in sentences_of(many, [YES, A, B]):
                if sentence[0] in OF_SOME + OF_ALL:
                    self.looked_at(HALL, sentence, holds(HALL, sentence))


if __name__ == "__main__":
    unittest.main()
