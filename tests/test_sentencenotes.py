"""foreseehall.sentencenotes: points [1] and [9], and the interface's section of that name."""

import itertools
import re
import unittest

from foreseehall.errors import NoNote, NoSentence
from foreseehall.sentencenotes import read, shown
from foreseehall.sentences import is_sentence
from hallcase import (
    LETTERS, NEVER, ONE_PART, TWO_PARTS, YES, A, B, C, D, HallCase, chain, many_leaves, mixed_sentence, sentences_of,
    some_sentences, texts_beside, tree, wrong_sentences,
)

ORDINARY = ("some until", ("not", A), ("and", B, C))
ORDINARY_TEXT = "some until(not(a), and(b, c))"

LEAF = re.compile(r"(\A|\(|, )(?:yes|[a-f])(?=\Z|\)|,)")
OF_ONE = re.compile(r"(?:not|(?:some|all) (?:next|always))\(#\)")
OF_TWO = re.compile(r"(?:and|or|(?:some|all) until)\(#, #\)")


def is_text(text):
    """Whether a text is that of a sentence: from within, all that is one is put together to one sign."""
    if "#" in text:
        return False
    level = deepest = 0
    for sign in text:
        level += (sign == "(") - (sign == ")")
        deepest = max(deepest, level)
    left, leaves = LEAF.subn(r"\1#", text)
    ahead = None
    while left != ahead:
        ahead = left
        left = OF_TWO.sub("#", OF_ONE.sub("#", left))
    return left == "#" and leaves + text.count("(") <= 200 and deepest < 24


def written_anyhow(some):
    """A text for any tuple of texts and tuples, as a sentence would be written."""
    if isinstance(some, str) or some == ():
        return some or ""
    if some[0] == "mark" and len(some) == 2:
        return written_anyhow(some[1])
    parts = ", ".join([written_anyhow(part) for part in some[1:]])
    return written_anyhow(some[0]) + (f"({parts})" if len(some) > 1 else "")


class Notes(HallCase):
    def looked_at(self, text):
        """A text is read just where it is the very text of a sentence; this is then the text of what was read."""
        if not is_text(text):
            self.refused(NoNote, read, text)
            return False
        told = self.ask(read, text)
        self.assertIs(is_sentence(told), True)
        self.same(shown(told), text)
        return True


class Shown(HallCase):
    def test_ordinary_sentences(self):
        self.same(self.ask(shown, ORDINARY), ORDINARY_TEXT)
        self.same(self.ask(shown, ("all next", NEVER)), "all next(not(yes))")

    def test_each_of_the_words(self):
        self.same(self.ask(shown, YES), "yes")
        for letter in LETTERS:
            self.same(self.ask(shown, ("mark", letter)), letter)
        for word in ONE_PART:
            self.same(self.ask(shown, (word, D)), word + "(d)")
        for word in TWO_PARTS:
            self.same(self.ask(shown, (word, D, YES)), word + "(d, yes)")

    def test_the_greatest(self):
        for word in ONE_PART:
            self.same(self.ask(shown, chain(word, 23)), (word + "(") * 23 + "a" + ")" * 23)
        for word in TWO_PARTS:
            self.same(self.ask(shown, chain(word, 23)), (word + "(b, ") * 23 + "a" + ")" * 23)
            wide = self.ask(shown, tree(word, many_leaves(100)))
            self.assertEqual((wide.count(word + "("), wide.count(", "), wide.count(")")), (99, 99, 99))

    def test_no_sentence(self):
        for wrong, some in wrong_sentences():
            with self.subTest(wrong):
                self.refused(NoSentence, shown, some)


class Read(Notes):
    def test_ordinary_texts(self):
        self.same(self.ask(read, ORDINARY_TEXT), ORDINARY)
        self.same(self.ask(read, "all next(not(yes))"), ("all next", NEVER))

    def test_each_of_the_words(self):
        self.same(self.ask(read, "yes"), YES)
        for letter in LETTERS:
            self.same(self.ask(read, letter), ("mark", letter))
        for word in ONE_PART:
            self.same(self.ask(read, word + "(d)"), (word, D))
        for word in TWO_PARTS:
            self.same(self.ask(read, word + "(d, yes)"), (word, D, YES))

    def test_what_is_written_is_read_to_the_same_sentence(self):
        for sentence in some_sentences() + sentences_of(4, [YES, A]):
            text = self.ask(shown, sentence)
            self.assertTrue(is_text(text))
            self.same(self.ask(read, text), sentence)
        for many in range(1, 201):
            sentence = mixed_sentence(many, 3)
            self.same(read(shown(sentence)), sentence)

    def test_a_sign_more_a_sign_less_or_another_one(self):
        for text in [ORDINARY_TEXT, "a", "yes", "or(a, b)", "not(yes)", "all always(some next(f))", "all until(e, yes)"]:
            for other in texts_beside(text):
                self.looked_at(other)

    def test_a_sign_more_a_sign_less_or_another_one_in_a_great_text(self):
        for sentence in (chain("some next", 23), mixed_sentence(60, 1)):
            for other in texts_beside(shown(sentence), "(), a"):
                self.looked_at(other)

    def test_all_short_texts(self):
        found = 0
        for many in range(6):
            for signs in itertools.product(["a", "yes", "not", "and", "(", ")", ",", " "], repeat=many):
                found += self.looked_at("".join(signs))
        self.assertEqual(found, 2 + 2)

    def test_all_short_texts_of_two_parts(self):
        found = 0
        for signs in itertools.product(["b", "or(", "not(", ")", ", ", "(", ","], repeat=5):
            text = "".join(signs)
            found += is_text(text)
            self.looked_at(text)
        self.assertEqual(found, 2)

    def test_nothing_and_blanks(self):
        for text in ["", " ", "\n", "\t", "()", "(", ")", ",", ", ", "(a)", "a, b", "(a, b)", "((a))", "\n\n", "  "]:
            self.refused(NoNote, read, text)

    def test_brackets_commas_and_blanks_that_lack_or_are_too_many(self):
        texts = ["and(a, b)", "and(a,b)", "and(a b)", "and(a , b)", "and(a,  b)", "and(a, b", "and a, b)", "and(a, b))"]
        texts += ["and((a, b)", "and((a, b))", "and((a), b)", "and(a, (b))", "and( a, b)", "and(a, b )", "and (a, b)"]
        texts += [" and(a, b)", "and(a, b) ", "\nand(a, b)", "and(a, b)\n", "and(a,\nb)", "and(a,\tb)", "and(a, b)\t"]
        texts += ["and(a,, b)", "and(a, , b)", "and(, a, b)", "and(a, b, )", "and(a, b,)", "and(a, b)and(a, b)"]
        texts += ["and(a, b), c", "and(a, b)c", "and[a, b]", "and{a, b}", "and<a, b>", "and(a; b)", "and(a. b)", "a and b"]
        texts += ["(and a b)", "and)a, b(", "and(a, b)()", "and()(a, b)", "'and(a, b)'", '"and"(a, b)', "and(a,\n b)"]
        self.assertEqual([self.looked_at(text) for text in texts], [True] + [False] * (len(texts) - 1))

    def test_a_part_too_many_or_too_few(self):
        for word in ONE_PART + TWO_PARTS:
            for many in range(5):
                text = word + "(" + ", ".join(["a"] * many) + ")"
                self.assertEqual(self.looked_at(text), many == (word in TWO_PARTS) + 1)
            self.refused(NoNote, read, word)
        for text in ["yes()", "yes(a)", "yes(yes)", "a()", "a(a)", "a(b)", "mark(a)", "mark", "mark(a, b)", "mark a", "aa"]:
            self.refused(NoNote, read, text)
            self.refused(NoNote, read, f"not({text})")

    def test_capital_letters(self):
        for word in ONE_PART + TWO_PARTS:
            parts = "(a, b)" if word in TWO_PARTS else "(a)"
            for other in (word.upper(), word.capitalize(), word.title(), word[:-1] + word[-1].upper()):
                self.refused(NoNote, read, other + parts)
        for text in ["A", "F", "YES", "Yes", "yeS", "not(A)", "and(a, B)", "or(A, b)", "not(Yes)"]:
            self.refused(NoNote, read, text)

    def test_words_that_are_none(self):
        words = ["no", "nor", "some", "all", "next", "always", "until", "some  next", "somenext", "some_next", "all\tnext"]
        words += ["some\nnext", "some not", "all and", "some all next", "until some", " not", "not ", "g", "h", "`", "0", ""]
        words += ["true", "xand", "andx", "an", "some nex", "ome next", "all untill", "some always ", "not not", "~"]
        for word in words:
            for parts in ("", "(a)", "(a, b)", "()"):
                self.refused(NoNote, read, word + parts)
                self.refused(NoNote, read, "or(c, " + word + parts + ")")
                self.refused(NoNote, read, "some until(" + word + parts + ", c)")

    def test_200_words_but_not_201(self):
        for word in TWO_PARTS:
            for many in (99, 100):
                self.assertTrue(self.looked_at(written_anyhow(tree(word, many_leaves(many)))))
            self.assertTrue(self.looked_at(written_anyhow(("not", tree(word, many_leaves(100))))))
            self.assertFalse(self.looked_at(written_anyhow(("not", ("not", tree(word, many_leaves(100)))))))
            for many in (101, 102, 150):
                self.assertFalse(self.looked_at(written_anyhow(tree(word, many_leaves(many)))))

    def test_depth_24_but_not_25(self):
        for word in ONE_PART + TWO_PARTS:
            for many in (22, 23, 24, 25, 59):
                self.assertEqual(self.looked_at(written_anyhow(chain(word, many))), many < 24)
                self.assertEqual(self.looked_at(written_anyhow(chain(word, many, YES))), many < 24)
        for many in (22, 23):
            self.assertEqual(self.looked_at(written_anyhow(("and", chain("not", many), A))), many == 22)
            self.assertEqual(self.looked_at(written_anyhow(("and", A, chain("not", many)))), many == 22)

    def test_the_texts_of_sentences_that_are_none(self):
        count = 0
        for wrong, some in wrong_sentences():
            text = written_anyhow(some)
            with self.subTest(wrong):
                # A letter where a sentence is due, and the like, are written as a sentence is.
                count += not self.looked_at(text)
        self.assertGreater(count, 150)

    def test_long_texts(self):
        for sign in "a(), y\n~":
            self.refused(NoNote, read, sign * 3000)
        for some in ("not(", "and(a, ", "and(", "some until(", "yes", "a, ", "a)"):
            self.refused(NoNote, read, some * (3000 // len(some)))
        self.refused(NoNote, read, "not(" * 600 + "a" + ")" * 600)
        self.refused(NoNote, read, "not(" * 1500 + "a" + ")" * 1500)

    def test_the_longest_text_that_there_is(self):
        # 99 words of two parts and one of one, all as long as can be, and 100 times yes.
        text = self.ask(shown, ("some always", tree("some until", [YES] * 100)))
        self.assertLess(len(text), 3000)
        self.assertTrue(self.looked_at(text))


if __name__ == "__main__":
    unittest.main()
