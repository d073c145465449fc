"""foreseehall.sentences: points [1] and [7], and the interface's section of that name."""

import itertools
import unittest

from foreseehall.errors import NoSentence
from foreseehall.sentences import depth, is_sentence, marks_of, words
from hallcase import (
    LETTERS, ONE_PART, TWO_PARTS, WRONG_MARKS, YES, A, B, C, D, F, HallCase, chain, depth_of, many_leaves,
    mixed_sentence, nested, sentences_of, some_of, some_sentences, tree, tuples_in, wrong_sentences,
)

ORDINARY = ("some until", ("not", A), ("and", B, C))


def is_one(some):
    """By the words of point [7], for small tuples."""
    if not isinstance(some, tuple) or some == ():
        return False
    word, parts = some[0], some[1:]
    if word == "yes":
        return parts == ()
    if word == "mark":
        return len(parts) == 1 and isinstance(parts[0], str) and len(parts[0]) == 1 and parts[0] in LETTERS
    due = 1 if word in ONE_PART else 2 if word in TWO_PARTS else None
    return len(parts) == due and all(is_one(part) for part in parts)


class IsSentence(HallCase):
    def told(self, some):
        answer = self.ask(is_sentence, some)
        self.assertIsInstance(answer, bool)
        return answer

    def test_each_of_the_words(self):
        for sentence in [YES, A, B, C, D, ("mark", "e"), F]:
            self.assertIs(self.told(sentence), True)
        for word in ONE_PART:
            self.assertIs(self.told((word, A)), True)
        for word in TWO_PARTS:
            self.assertIs(self.told((word, A, A)), True)

    def test_each_word_of_each_number_of_parts(self):
        for word in ONE_PART + TWO_PARTS + ["yes", "mark", "", "no", "a", "next", "some", "some  next", "Not"]:
            for many in range(5):
                due = {"yes": 0}.get(word, 1 if word in ONE_PART else 2 if word in TWO_PARTS else None)
                self.assertIs(self.told((word,) + (A,) * many), many == due)

    def test_each_letter(self):
        for mark in list(LETTERS) + WRONG_MARKS:
            self.assertIs(self.told(("mark", mark)), mark not in WRONG_MARKS)
            self.assertIs(self.told(("and", A, ("not", ("mark", mark)))), mark not in WRONG_MARKS)

    def test_all_small_tuples(self):
        entries = ["yes", "mark", "a", "not", "and", "", (), YES, A, ("not", A), ("mark", "g"), ("not", "a")]
        count = 0
        for many in range(4):
            for some in itertools.product(entries, repeat=many):
                count += self.told(some)
                self.assertIs(self.told(some), is_one(some))
        self.assertEqual(count, 2 + 3 + 9)

    def test_some_sentences(self):
        for sentence in some_sentences():
            self.assertIs(self.told(sentence), True)

    def test_200_words_but_not_201(self):
        for word in TWO_PARTS:
            for many in range(1, 101):
                self.assertIs(is_sentence(tree(word, many_leaves(many))), True)
            for many in (101, 102, 150, 200):
                self.assertIs(self.told(tree(word, many_leaves(many))), False)
        wide = tree("or", many_leaves(100))
        for word in ONE_PART:
            self.assertIs(self.told((word, wide)), True)
            self.assertIs(self.told(("not", (word, wide))), False)

    def test_depth_24_but_not_25(self):
        for word in ONE_PART + TWO_PARTS:
            for many in range(60):
                self.assertIs(is_sentence(chain(word, many)), many < 24)
                self.assertIs(is_sentence(chain(word, many, YES)), many < 24)

    def test_depth_25_on_either_side(self):
        for word in TWO_PARTS:
            for many in (22, 23):
                self.assertIs(self.told((word, chain("not", many), A)), many == 22)
                self.assertIs(self.told((word, A, chain("not", many))), many == 22)

    def test_a_tuple_that_stands_in_many_places(self):
        for many in range(60):
            self.assertIs(is_sentence(nested(many)), many < 7)

    def test_wrong_sentences(self):
        for wrong, some in wrong_sentences():
            with self.subTest(wrong):
                self.assertIs(self.told(some), False)


class TheNumbers(HallCase):
    def test_an_ordinary_sentence(self):
        self.same(self.ask(words, ORDINARY), 6)
        self.same(self.ask(depth, ORDINARY), 3)

    def test_yes_and_marks(self):
        for leaf in [YES, A, F]:
            self.same(self.ask(words, leaf), 1)
            self.same(self.ask(depth, leaf), 1)

    def test_each_of_the_words(self):
        for word in ONE_PART:
            self.same((self.ask(words, (word, A)), self.ask(depth, (word, A))), (2, 2))
        for word in TWO_PARTS:
            self.same((self.ask(words, (word, A, YES)), self.ask(depth, (word, A, YES))), (3, 2))

    def test_the_deeper_part_counts(self):
        for word in TWO_PARTS:
            for one in range(5):
                for other in range(5):
                    sentence = (word, chain("not", one), chain("all next", other, YES))
                    self.same(self.ask(words, sentence), 3 + one + other)
                    self.same(self.ask(depth, sentence), 2 + max(one, other))

    def test_a_tuple_in_two_places_counts_twice(self):
        part = ("not", B)
        self.same(self.ask(words, ("or", part, part)), 5)
        self.same(self.ask(words, nested(6)), 127)

    def test_the_greatest(self):
        for word in TWO_PARTS:
            self.same(self.ask(words, tree(word, many_leaves(100))), 199)
            self.same(self.ask(words, ("not", tree(word, many_leaves(100)))), 200)
            self.same(self.ask(depth, tree(word, many_leaves(100))), 8)
        for word in ONE_PART + TWO_PARTS:
            self.same(self.ask(depth, chain(word, 23)), 24)
            self.same(self.ask(words, chain(word, 23)), 24 if word in ONE_PART else 47)

    def test_sentences_of_each_number_of_words(self):
        for many in range(1, 201):
            sentence = mixed_sentence(many, 1)
            self.same(words(sentence), many)
            self.same(depth(sentence), depth_of(sentence))
        for many in range(1, 5):
            for sentence in sentences_of(many, [YES, A]):
                self.same(words(sentence), many)
                self.same(depth(sentence), depth_of(sentence))

    def test_no_sentence(self):
        for wrong, some in wrong_sentences():
            with self.subTest(wrong):
                self.refused(NoSentence, words, some)
                self.refused(NoSentence, depth, some)


class MarksOf(HallCase):
    def test_an_ordinary_sentence(self):
        self.same(self.ask(marks_of, ORDINARY), ["a", "b", "c"])

    def test_none_and_all(self):
        self.same(self.ask(marks_of, YES), [])
        self.same(self.ask(marks_of, tree("and", [YES] * 100)), [])
        self.same(self.ask(marks_of, tree("and", many_leaves(100))), list(LETTERS))

    def test_each_letter(self):
        for letter in LETTERS:
            self.same(self.ask(marks_of, ("mark", letter)), [letter])
            for word in ONE_PART:
                self.same(self.ask(marks_of, (word, ("mark", letter))), [letter])

    def test_each_choice_of_letters_however_they_come(self):
        for letters in some_of(LETTERS)[1:]:
            leaves = [("mark", letter) for letter in reversed(letters)]
            self.same(self.ask(marks_of, tree("some until", leaves + leaves)), letters)
            self.same(self.ask(marks_of, tree("or", leaves[1:] + [YES] + leaves[:1])), letters)

    def test_some_sentences(self):
        for sentence in some_sentences():
            letters = sorted({part[1] for part in tuples_in(sentence) if part[0] == "mark"})
            self.same(self.ask(marks_of, sentence), letters)

    def test_no_sentence(self):
        for wrong, some in wrong_sentences():
            with self.subTest(wrong):
                self.refused(NoSentence, marks_of, some)


if __name__ == "__main__":
    unittest.main()
