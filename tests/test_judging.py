"""foreseehall.judging: points [1] and [10], and the interface's section of that name."""

import itertools
import unittest

from foreseehall.errors import NoSentence, NoWorld
from foreseehall.forms import opposite
from foreseehall.judging import holds
from hallcase import (
    LETTERS, NEVER, ONE_PART, TWO_PARTS, WRONG_WORLD, YES, A, B, C, F, HallCase, chain, full, many_leaves, mixed,
    mixed_sentence, parts_of, ring, sentences_of, tree, truths, ways_from, worlds_for_sentences, worlds_of,
    wrong_sentences, wrong_worlds,
)

# Room 0 may stay or go to 1; 1 goes to 2; 2 goes back to 0 or on to 3, from where there is no way back.
HALL = ([0, 1, 0, 1], [["a"], ["a", "b"], ["b"], ["c"]], [[0, 1], [2], [0, 3], [3]])


def rooms_of(answers):
    return [room for room, is_so in enumerate(answers) if is_so]


def ring_with(size, marks):
    """A ring with marks in some rooms."""
    owners, rows, steps = ring(size)
    return (owners, [marks.get(room, []) for room in range(size)], steps)


def answers_by_rounds(world, sentence):
    """For each room whether a sentence holds, for greater worlds: what can be so within as many steps as rooms."""
    word, parts = sentence[0], [answers_by_rounds(world, part) for part in parts_of(sentence)]
    size = len(world[0])
    if word in ("yes", "mark", "not", "and", "or") or word.endswith("next"):
        return truths_of_parts(world, sentence, parts)
    asked = any if word.startswith("some") else all
    answers = [word.endswith("always")] * size
    for _ in range(size + 1):
        onward = [asked([answers[there] for there in world[2][room]]) for room in range(size)]
        if word.endswith("always"):
            answers = [parts[0][room] and onward[room] for room in range(size)]
        else:
            answers = [parts[1][room] or parts[0][room] and onward[room] for room in range(size)]
    return answers


def truths_of_parts(world, sentence, parts):
    word, size = sentence[0], len(world[0])
    if word == "yes":
        return [True] * size
    if word == "mark":
        return [sentence[1] in row for row in world[1]]
    if word == "not":
        return [not here for here in parts[0]]
    if word in ("and", "or"):
        return [(one and other) if word == "and" else (one or other) for one, other in zip(*parts)]
    count = [sum(parts[0][there] for there in row) for row in world[2]]
    return [many > 0 if word == "some next" else many == len(row) for many, row in zip(count, world[2])]


def all_ways(world, room, most):
    """All ways with a front and a ring of at most so many rooms in all, also such as meet rooms again and again."""
    walks = [[room]]
    for _ in range(most):
        for walk in walks:
            for place, here in enumerate(walk):
                if here in world[2][walk[-1]]:
                    yield walk[:place], walk[place:]
        walks = [walk + [there] for walk in walks for there in world[2][walk[-1]]]


class Holds(HallCase):
    def held(self, world, sentence):
        rooms = self.ask(holds, world, sentence)
        self.assertIsInstance(rooms, list)
        return rooms

    def told(self, world, rows):
        for sentence, rooms in rows:
            with self.subTest(sentence):
                self.same(self.held(world, sentence), rooms)
                self.same(self.held(world, opposite(sentence)), [room for room in range(len(world[0])) if room not in rooms])

    def test_yes_marks_not_and_or(self):
        self.told(HALL, [
            (YES, [0, 1, 2, 3]), (A, [0, 1]), (B, [1, 2]), (C, [3]), (F, []), (NEVER, []), (("not", A), [2, 3]),
            (("and", A, B), [1]), (("or", A, B), [0, 1, 2]), (("and", A, C), []), (("or", A, ("or", B, C)), [0, 1, 2, 3]),
        ])

    def test_next(self):
        self.told(HALL, [
            (("some next", A), [0, 2]), (("all next", A), [0]), (("some next", B), [0, 1]), (("all next", B), [1]),
            (("some next", C), [2, 3]), (("all next", C), [3]), (("some next", YES), [0, 1, 2, 3]),
            (("all next", YES), [0, 1, 2, 3]), (("some next", NEVER), []), (("all next", NEVER), []),
        ])

    def test_some_until(self):
        self.told(HALL, [
            (("some until", A, B), [0, 1, 2]), (("some until", A, C), [3]), (("some until", YES, C), [0, 1, 2, 3]),
            (("some until", B, C), [1, 2, 3]), (("some until", B, A), [0, 1, 2]), (("some until", YES, A), [0, 1, 2]),
            (("some until", A, F), []), (("some until", NEVER, B), [1, 2]), (("some until", C, YES), [0, 1, 2, 3]),
        ])

    def test_all_until(self):
        self.told(HALL, [
            (("all until", A, B), [1, 2]), (("all until", YES, C), [3]), (("all until", B, A), [0, 1]),
            (("all until", YES, ("or", A, C)), [0, 1, 2, 3]), (("all until", B, ("or", A, C)), [0, 1, 2, 3]),
            (("all until", A, F), []), (("all until", NEVER, B), [1, 2]), (("all until", C, YES), [0, 1, 2, 3]),
            (("all until", C, ("or", A, C)), [0, 1, 3]),
        ])

    def test_some_always(self):
        self.told(HALL, [
            (("some always", A), [0]), (("some always", B), []), (("some always", C), [3]),
            (("some always", ("or", A, B)), [0, 1, 2]), (("some always", ("not", A)), [2, 3]),
            (("some always", YES), [0, 1, 2, 3]), (("some always", NEVER), []),
        ])

    def test_all_always(self):
        self.told(HALL, [
            (("all always", A), []), (("all always", C), [3]), (("all always", ("or", A, B)), []),
            (("all always", ("not", F)), [0, 1, 2, 3]), (("all always", ("not", A)), [3]),
            (("all always", YES), [0, 1, 2, 3]), (("all always", NEVER), []),
        ])

    def test_words_of_time_within_one_another(self):
        self.told(HALL, [
            (("all always", ("some until", YES, C)), [0, 1, 2, 3]),
            (("some always", ("some until", YES, A)), [0, 1, 2]),
            (("some until", ("some next", A), ("all always", C)), [2, 3]),
            (("some until", YES, ("all always", C)), [0, 1, 2, 3]),
            (("all next", ("some next", A)), [1]),
        ])

    def test_each_word_of_time_holds_at_all_rooms_at_some_and_at_none(self):
        for word in ONE_PART[1:] + TWO_PARTS[2:]:
            seen = set()
            ending = ([0, 0], [[], ["a", "b"]], [[0, 1], [1]])
            for world in [HALL, ring(3), full(3), ending, ring_with(24, {7: ["b"], 8: ["a", "b"]})]:
                for sentence in [(word, B), (word, A)] if word in ONE_PART else [(word, A, B), (word, B, A)]:
                    count = len(self.held(world, sentence))
                    seen.add("none" if count == 0 else "all" if count == len(world[0]) else "some")
            self.assertEqual(len(seen), 3, word)

    def test_one_room(self):
        for world, has in ((ring(1), []), (full(1), [0]), (([1], [["a"]], [[0]]), [0])):
            for sentence in [A] + [(word, A) for word in ONE_PART[1:]] + [(word, A, A) for word in TWO_PARTS]:
                self.same(self.held(world, sentence), has)
            self.same(self.held(world, ("not", A)), [0] if has == [] else [])
            self.same(self.held(world, ("some until", YES, A)), has)
            self.same(self.held(world, ("all until", YES, A)), has)

    def test_a_ring_of_24(self):
        world = ring_with(24, {0: ["a"], 5: ["b"], 6: ["b"], 7: ["b"], 8: ["c"]})
        everywhere = list(range(24))
        for ahead in ("some ", "all "):
            self.same(self.held(world, (ahead + "until", YES, A)), everywhere)
            self.same(self.held(world, (ahead + "until", B, C)), [5, 6, 7, 8])
            self.same(self.held(world, (ahead + "until", ("not", C), A)), [0] + list(range(9, 24)))
            self.same(self.held(world, (ahead + "always", ("not", F))), everywhere)
            self.same(self.held(world, (ahead + "always", ("not", A))), [])
            for many in range(24):
                self.same(self.held(world, chain(ahead + "next", many)), [(24 - many) % 24])

    def test_a_long_way_to_where_all_ways_end(self):
        size = 24
        steps = [sorted({min(room + 1, 23), min(room + 2, 23)}) for room in range(size)]
        world = ([0] * size, [["a"] if room == 23 else ["b"] if room > 3 else [] for room in range(size)], steps)
        for ahead in ("some ", "all "):
            self.same(self.held(world, (ahead + "until", YES, A)), list(range(size)))
            self.same(self.held(world, (ahead + "until", B, A)), list(range(4, size)))
            self.same(self.held(world, (ahead + "always", ("or", A, B))), list(range(4, size)))
            self.same(self.held(world, (ahead + "always", A)), [23])
        self.same(self.held(world, ("some next", B)), list(range(2, 22)))
        self.same(self.held(world, ("all next", B)), list(range(3, 21)))

    def test_all_steps_and_all_marks(self):
        for word in ONE_PART[1:]:
            self.same(self.held(full(24), (word, A)), list(range(24)))
            self.same(self.held(full(24), (word, ("not", A))), [])
        for word in TWO_PARTS:
            self.same(self.held(full(24), (word, A, F)), list(range(24)))

    def test_small_sentences_against_ways_gone_through(self):
        sentences = [sentence for many in (1, 2, 3) for sentence in sentences_of(many, [YES, A, B])]
        for world in worlds_for_sentences():
            for sentence in sentences:
                self.same(holds(world, sentence), rooms_of(truths(world, sentence)))
            for sentence in sentences[::11]:
                self.same(self.held(world, sentence), rooms_of(truths(world, sentence)))

    def test_all_worlds_of_2_rooms_against_ways_gone_through(self):
        rows = [[], ["a"], ["b"], ["a", "b"]]
        for world in worlds_of(2):
            for marks in itertools.product(rows, repeat=2):
                world = (world[0], [list(row) for row in marks], world[2])
                for word in TWO_PARTS[2:]:
                    self.same(self.held(world, (word, A, B)), rooms_of(truths(world, (word, A, B))))
                for word in ONE_PART[1:]:
                    self.same(self.held(world, (word, A)), rooms_of(truths(world, (word, A))))

    def test_worlds_of_3_rooms_against_ways_gone_through(self):
        for world in worlds_of(3):
            for sentence in [("some until", A, B), ("all until", A, B), ("some always", A), ("all always", A)]:
                self.same(holds(world, sentence), rooms_of(truths(world, sentence)))

    def test_greater_sentences_against_ways_gone_through(self):
        for world in worlds_for_sentences()[::3]:
            for many in range(4, 40, 3):
                sentence = mixed_sentence(many, many)
                self.same(self.held(world, sentence), rooms_of(truths(world, sentence)))

    def test_ways_that_meet_rooms_again_and_again_tell_nothing_else(self):
        for world in list(worlds_of(2)) + list(worlds_of(3))[::31]:
            for room in range(len(world[0])):
                ways = [front + behind for front, behind in all_ways(world, room, 5)]
                self.assertGreaterEqual(len(ways), len(ways_from(world, room)))
                has = [{letter: letter in row for letter in LETTERS} for row in world[1]]
                comes = [any(has[here]["b"] and all(has[there]["a"] for there in way[:place])
                             for place, here in enumerate(way)) for way in ways]
                stays = [all(has[here]["a"] for here in way) for way in ways]
                self.assertEqual(room in holds(world, ("some until", A, B)), any(comes))
                self.assertEqual(room in holds(world, ("all until", A, B)), all(comes))
                self.assertEqual(room in holds(world, ("some always", A)), any(stays))
                self.assertEqual(room in holds(world, ("all always", A)), all(stays))

    def test_the_greatest_sentences_in_the_greatest_worlds(self):
        great = [chain(word, 23) for word in ONE_PART + TWO_PARTS] + [mixed_sentence(200, seed) for seed in range(3)]
        great += [("not", tree(word, many_leaves(100))) for word in TWO_PARTS]
        for world in [ring_with(24, {3: ["a", "b"], 9: ["c", "d"], 17: ["e"]}), full(24), mixed(24, 1), mixed(24, 5)]:
            for sentence in great:
                self.same(self.held(world, sentence), rooms_of(answers_by_rounds(world, sentence)))

    def test_middle_worlds(self):
        for size in (5, 7, 11, 16, 23, 24):
            for seed in range(4):
                world = mixed(size, seed)
                for many in (2, 3, 3, 5, 9, 20):
                    sentence = mixed_sentence(many, size * 31 + seed)
                    self.same(self.held(world, sentence), rooms_of(answers_by_rounds(world, sentence)))
                for word in TWO_PARTS[2:]:
                    for one, other in itertools.permutations([A, B, C, ("not", A)], 2):
                        sentence = (word, one, other)
                        self.same(holds(world, sentence), rooms_of(answers_by_rounds(world, sentence)))

    def test_owners_have_no_weight(self):
        for sentence in [("some until", A, B), ("all until", A, B), ("some always", A), ("all next", A)]:
            for owners in itertools.product([0, 1], repeat=4):
                self.same(self.held((list(owners), HALL[1], HALL[2]), sentence), holds(HALL, sentence))

    def test_lists_that_are_handed_in_twice(self):
        row, way = ["a"], [0, 2]
        world = ([1, 1, 0], [row, [], row], [way, way, way])
        self.same(self.held(world, ("all next", A)), [0, 1, 2])
        self.same(self.held(world, ("some always", A)), [0, 2])


class Refusals(HallCase):
    def test_no_world(self):
        for wrong, world in wrong_worlds():
            with self.subTest(wrong):
                self.refused(NoWorld, holds, world, A)

    def test_no_sentence(self):
        for wrong, some in wrong_sentences():
            with self.subTest(wrong):
                self.refused(NoSentence, holds, HALL, some)

    def test_the_opposite_of_the_greatest_is_no_sentence(self):
        self.refused(NoSentence, holds, HALL, opposite(chain("some next", 23)))
        self.refused(NoSentence, holds, HALL, opposite(("some next", tree("and", many_leaves(100)))))

    def test_the_world_goes_ahead_of_the_sentence(self):
        for wrong, some in wrong_sentences():
            self.refused(NoWorld, holds, WRONG_WORLD, some)
        for wrong, world in wrong_worlds():
            self.refused(NoWorld, holds, world, ())


if __name__ == "__main__":
    unittest.main()
