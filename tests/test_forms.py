"""foreseehall.forms: points [1] and [8], and the interface's section of that name."""

import unittest

from foreseehall.errors import NoSentence, TooGreat
from foreseehall.forms import base, opposite, shorter
from foreseehall.sentences import is_sentence
from hallcase import (
    LETTERS, NEVER, ONE_PART, TWO_PARTS, YES, A, B, C, D, HallCase, chain, depth_of, many_leaves, mixed_sentence,
    sentences_of, some_sentences, tree, truths, tuples_in, worlds_for_sentences, wrong_sentences,
)

BASE_WORDS = ["yes", "mark", "not", "and", "some next", "some until", "some always"]
FIXED = (YES, NEVER)
WORLDS = worlds_for_sentences()


def small_sentences():
    return [sentence for many in (1, 2, 3, 4) for sentence in sentences_of(many, [YES, A])]


def middle_sentences():
    return [mixed_sentence(many, seed) for many in range(5, 17) for seed in range(3)]


def with_marks_in_order(sentence, letters):
    """The same sentence with other marks from left to right, so that no two parts are alike."""
    if sentence[0] == "mark":
        return ("mark", letters.pop(0))
    return sentence[:1] + tuple([with_marks_in_order(part, letters) for part in sentence[1:]])


class Forms(HallCase):
    def hold_alike(self, one, other, worlds=WORLDS):
        for world in worlds:
            self.assertEqual(truths(world, one), truths(world, other), (one, other, world))


class Opposite(Forms):
    def test_ordinary_sentences(self):
        self.same(self.ask(opposite, ("and", A, B)), ("not", ("and", A, B)))
        self.same(self.ask(opposite, ("not", ("and", A, B))), ("and", A, B))

    def test_each_of_the_words(self):
        for sentence in [YES, A] + [(word, A) for word in ONE_PART[1:]] + [(word, A, B) for word in TWO_PARTS]:
            self.same(self.ask(opposite, sentence), ("not", sentence))
            self.same(self.ask(opposite, ("not", sentence)), sentence)

    def test_only_the_first_not_goes(self):
        self.same(self.ask(opposite, ("not", ("not", A))), ("not", A))
        self.same(self.ask(opposite, ("and", ("not", A), ("not", ("not", B)))), ("not", ("and", ("not", A), ("not", ("not", B)))))

    def test_the_greatest(self):
        for word in TWO_PARTS:
            wide = tree(word, many_leaves(100))
            self.same(self.ask(opposite, wide), ("not", wide))
            self.same(self.ask(opposite, ("not", wide)), wide)
            self.same(self.ask(opposite, ("some next", wide)), ("not", ("some next", wide)))
            self.assertIs(is_sentence(opposite(("some next", wide))), False)
        for word in ONE_PART[1:] + TWO_PARTS:
            deep = chain(word, 23)
            self.same(self.ask(opposite, deep), ("not", deep))
            self.assertIs(is_sentence(opposite(deep)), False)
        self.same(self.ask(opposite, chain("not", 23)), chain("not", 22))

    def test_it_holds_just_where_the_sentence_does_not(self):
        for sentence in small_sentences()[::3]:
            told = self.ask(opposite, sentence)
            for world in WORLDS[::4]:
                self.assertEqual(truths(world, told), [not here for here in truths(world, sentence)])

    def test_no_sentence(self):
        for wrong, some in wrong_sentences():
            with self.subTest(wrong):
                self.refused(NoSentence, opposite, some)

    def test_the_opposite_of_what_is_too_great_is_refused(self):
        self.refused(NoSentence, opposite, ("not", chain("not", 23)))
        self.refused(NoSentence, opposite, opposite(chain("and", 23)))


class Base(Forms):
    def based(self, sentence):
        told = self.ask(base, sentence)
        self.assertIs(is_sentence(told), True)
        self.assertEqual([part for part in tuples_in(told) if part[0] not in BASE_WORDS], [])
        return told

    def test_small_sentences(self):
        for sentence in small_sentences():
            self.hold_alike(self.based(sentence), sentence)

    def test_each_word_of_time_of_two_marks(self):
        for sentence in sentences_of(3, [A, B]) + [("all until", one, other) for one in [C, NEVER] for other in [D, YES]]:
            self.hold_alike(self.based(sentence), sentence)

    def test_words_of_time_within_one_another(self):
        for word in TWO_PARTS:
            for inner in TWO_PARTS:
                for sentence in [(word, A, (inner, B, C)), (word, (inner, A, B), C), ("not", (word, ("not", A), (inner, B, C)))]:
                    self.hold_alike(self.based(sentence), sentence)
            for inner in ONE_PART:
                for sentence in [(word, A, (inner, B)), (word, (inner, A), B), (inner, (word, A, B))]:
                    self.hold_alike(self.based(sentence), sentence)

    def test_greater_sentences(self):
        count = 0
        for sentence in middle_sentences():
            try:
                told = base(sentence)
            except TooGreat:
                count += 1
                continue
            self.same(self.based(sentence), told)
            self.hold_alike(told, sentence, WORLDS[::5])
        self.assertLess(count, len(middle_sentences()) // 2)

    def test_each_of_7_words_is_a_sentence(self):
        for many in range(1, 8):
            for sentence in sentences_of(many, [A]):
                told = base(with_marks_in_order(sentence, list(LETTERS)))
                if not is_sentence(told):
                    self.fail(sentence)

    def test_each_of_few_words_with_yes_is_a_sentence(self):
        for sentence in sentences_of(5, [YES, A]):
            self.assertIs(is_sentence(base(sentence)), True)

    def test_what_is_a_base_form_is_never_too_great(self):
        for word in ("not", "some next", "some always", "and", "some until"):
            self.assertLessEqual(depth_of(self.based(chain(word, 23))), 24)
        for word in ("and", "some until"):
            wide = tree(word, many_leaves(100))
            for sentence in (wide, ("not", wide), ("some next", wide), ("some always", wide)):
                self.assertLessEqual(len(tuples_in(self.based(sentence))), len(tuples_in(sentence)))

    def test_200_words_are_not_too_many_but_201_are(self):
        wide = tree("or", many_leaves(66))
        self.assertEqual(len(tuples_in(self.based(wide))), 198)
        self.assertEqual(len(tuples_in(self.based(("some next", wide)))), 199)
        self.assertEqual(len(tuples_in(self.based(("and", wide, A)))), 200)
        self.refused(TooGreat, base, ("and", wide, ("not", A)))
        self.refused(TooGreat, base, tree("or", many_leaves(67)))
        self.assertEqual(len(tuples_in(self.based(("not", tree("or", many_leaves(67)))))), 200)
        self.refused(TooGreat, base, ("some next", ("not", tree("or", many_leaves(67)))))

    def test_depth_24_is_not_too_deep_but_25_is(self):
        self.assertEqual(depth_of(self.based(chain("all next", 21))), 24)
        self.refused(TooGreat, base, chain("all next", 22))
        self.assertEqual(depth_of(self.based(("not", chain("all next", 22)))), 24)
        self.refused(TooGreat, base, chain("all next", 23))

    def test_the_greatest_are_refused_at_once(self):
        for sentence in [chain("all until", 23), tree("all until", many_leaves(100)), chain("all always", 23)]:
            self.refused(TooGreat, base, sentence)
        told = A
        for _ in range(23):
            told = ("all until", told, B)
        self.refused(TooGreat, base, told)

    def test_many_must_comes_are_no_great_thing(self):
        told = A
        for _ in range(11):
            told = ("all until", YES, told)
        self.hold_alike(self.based(told), told, WORLDS[::9])

    def test_no_sentence(self):
        for wrong, some in wrong_sentences():
            with self.subTest(wrong):
                self.refused(NoSentence, base, some)


# What each shape that a shorter one may not have comes to.
SHAPES = [
    (("not", ("not", B)), B),
    (("not", ("not", YES)), YES),
    (("not", ("not", ("not", B))), ("not", B)),
    (("not", ("not", ("not", ("not", B)))), B),
    (("and", YES, B), B),
    (("and", B, YES), B),
    (("and", YES, YES), YES),
    (("and", NEVER, B), NEVER),
    (("and", B, NEVER), NEVER),
    (("and", YES, NEVER), NEVER),
    (("and", NEVER, YES), NEVER),
    (("and", NEVER, NEVER), NEVER),
    (("and", B, B), B),
    (("and", ("some next", B), ("some next", B)), ("some next", B)),
    (("or", YES, B), YES),
    (("or", B, YES), YES),
    (("or", YES, YES), YES),
    (("or", NEVER, B), B),
    (("or", B, NEVER), B),
    (("or", YES, NEVER), YES),
    (("or", NEVER, YES), YES),
    (("or", NEVER, NEVER), NEVER),
    (("or", B, B), B),
    (("or", ("and", B, C), ("and", B, C)), ("and", B, C)),
    (("some until", B, YES), YES),
    (("some until", B, NEVER), NEVER),
    (("some until", NEVER, B), B),
    (("some until", YES, YES), YES),
    (("some until", YES, NEVER), NEVER),
    (("some until", NEVER, YES), YES),
    (("some until", NEVER, NEVER), NEVER),
    (("all until", B, YES), YES),
    (("all until", B, NEVER), NEVER),
    (("all until", NEVER, B), B),
    (("all until", YES, YES), YES),
    (("all until", YES, NEVER), NEVER),
    (("all until", NEVER, YES), YES),
    (("all until", NEVER, NEVER), NEVER),
] + [((word, fixed), fixed) for word in ONE_PART[1:] for fixed in FIXED]


def is_shut_out(told):
    """Whether a tuple by itself has one of the shapes that point [8] lists."""
    word, parts = told[0], told[1:]
    if word == "not":
        return parts[0][0] == "not"
    if word in ("and", "or"):
        return parts[0] in FIXED or parts[1] in FIXED or parts[0] == parts[1]
    if word.endswith("until"):
        return parts[1] in FIXED or parts[0] == NEVER
    return word.endswith(("next", "always")) and parts[0] in FIXED


# Longer ways to say a part: they come to the part only when they are made shorter.
def longer_ways(part):
    return [("not", ("not", part)), ("and", YES, part), ("or", part, NEVER), ("or", part, part), ("all until", NEVER, part)]


class Shorter(Forms):
    def shortened(self, sentence):
        told = self.ask(shorter, sentence)
        self.assertIs(is_sentence(told), True)
        self.assertLessEqual(len(tuples_in(told)), len(tuples_in(sentence)))
        for part in tuples_in(told):
            self.assertFalse(is_shut_out(part), (sentence, told, part))
            self.same(shorter(part), part)
        return told

    def test_each_shape_alone(self):
        for sentence, told in SHAPES:
            with self.subTest(sentence):
                self.assertTrue(any(is_shut_out(part) for part in tuples_in(sentence)))
                self.same(self.shortened(sentence), told)
                self.hold_alike(sentence, told)

    def test_each_shape_within_other_words(self):
        for sentence, told in SHAPES:
            for word in ONE_PART[1:]:
                due = told if told in FIXED else (word, told)
                self.same(self.shortened((word, sentence)), due)
            for word in TWO_PARTS:
                if told not in FIXED:
                    self.same(self.shortened((word, A, sentence)), (word, A, told))
                    self.same(self.shortened((word, sentence, A)), (word, told, A))
            if told not in FIXED and told[0] != "not":
                self.same(self.shortened(("not", sentence)), ("not", told))

    def test_each_shape_far_within(self):
        for sentence, told in SHAPES:
            if told not in FIXED and told[0] != "not":
                self.same(self.shortened(chain("some next", 18, sentence)), chain("some next", 18, told))
                self.same(self.shortened(chain("all until", 18, sentence)), chain("all until", 18, told))

    def test_each_shape_made_only_when_the_parts_are_made_shorter(self):
        for sentence, told in SHAPES:
            for place in range(1, len(sentence)):
                for longer in longer_ways(sentence[place]):
                    whole = sentence[:place] + (longer,) + sentence[place + 1:]
                    with self.subTest(whole):
                        self.same(self.shortened(whole), told)

    def test_parts_that_become_alike(self):
        for word in ("and", "or"):
            for one in longer_ways(B) + [B]:
                for other in longer_ways(B):
                    self.same(self.shortened((word, one, other)), B)
        self.same(self.shortened(("not", ("and", ("not", A), ("not", A)))), A)

    def test_what_stays(self):
        stay = [YES, NEVER, A, ("not", A), ("some until", YES, A), ("all until", YES, A), ("some until", YES, ("not", A))]
        stay += [(word, A, B) for word in TWO_PARTS] + [(word, B, ("not", A)) for word in TWO_PARTS]
        stay += [(word, A) for word in ONE_PART] + [(word, ("not", A)) for word in ONE_PART[1:]]
        for sentence in stay:
            self.same(self.shortened(sentence), sentence)

    def test_small_sentences(self):
        for sentence in small_sentences():
            self.hold_alike(self.shortened(sentence), sentence)

    def test_all_of_5_words(self):
        for sentence in sentences_of(5, [YES, A]):
            told = shorter(sentence)
            self.assertLessEqual(len(tuples_in(told)), 5)
            self.assertFalse(any(is_shut_out(part) for part in tuples_in(told)), (sentence, told))
            self.same(shorter(told), told)

    def test_greater_sentences(self):
        for sentence in middle_sentences():
            self.hold_alike(self.shortened(sentence), sentence, WORLDS[::5])

    def test_the_greatest(self):
        for sentence in some_sentences()[-12:]:
            self.shortened(sentence)
        self.same(self.shortened(chain("not", 23)), ("not", A))
        self.same(self.shortened(chain("not", 22)), A)
        self.same(self.shortened(chain("some always", 23, YES)), YES)
        self.same(self.shortened(chain("all until", 23, YES)), YES)
        for word in ("and", "or"):
            self.same(self.shortened(tree(word, [C] * 100)), C)
            self.same(self.shortened(tree(word, [YES] * 100)), YES)
            wide = tree(word, many_leaves(64))
            self.same(self.shortened((word, wide, ("not", ("not", D)))), (word, wide, D))

    def test_no_sentence(self):
        for wrong, some in wrong_sentences():
            with self.subTest(wrong):
                self.refused(NoSentence, shorter, some)


if __name__ == "__main__":
    unittest.main()
