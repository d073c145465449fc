"""foreseehall.judgepapers: points [1] and [11] to [13], and the interface's section of that name."""

import copy
import unittest

from foreseehall.errors import NoSentence, NoWorld
from foreseehall.judgepapers import is_paper, paper
from foreseehall.judging import holds
from hallcase import (
    FAR, NEVER, ONE_PART, TWO_PARTS, WRONG_WORLD, YES, A, B, C, HallCase, chain, full, many_leaves, mixed, mixed_sentence,
    other_ranks, other_rooms, parts_of, ring, sentences_of, tree, truths, worlds_for_sentences, wrong_sentences,
    wrong_worlds,
)

# A row of rooms: 0, 1, 2 have a, 3 has b, 4 has nothing; from 1 one may stay, from 2 one may go to 4 too.
HALL = ([0, 1, 0, 1, 0], [["a"], ["a"], ["a"], ["b"], []], [[1], [1, 2], [3, 4], [3], [3]])
LEAF_A = ([0, 1, 2], None, [])
LEAF_B = ([3], None, [])


def is_time(sentence):
    return sentence[0].endswith(("until", "always"))


def rank_is_right_for_until(word, ranks, steps, first, second, room):
    """Point [11], word by word, for one room."""
    rank = ranks[room]
    ahead = [ranks[there] for there in steps[room]]
    asked = any if word == "some until" else all
    if (rank == 0) != second[room]:
        return False
    if rank == 0:
        return True
    if rank is not None:
        return rank >= 0 and first[room] and asked([other is not None and other < rank for other in ahead])
    if not first[room]:
        return True
    if word == "some until":
        return all(other is None for other in ahead)
    return any(other is None for other in ahead)


def rank_is_right_for_always(word, ranks, steps, part, room):
    """Point [12], word by word, for one room."""
    rank = ranks[room]
    ahead = [ranks[there] for there in steps[room]]
    if (rank == 0) != (not part[room]):
        return False
    if rank == 0:
        return True
    if rank is not None:
        asked = all if word == "some always" else any
        return rank >= 0 and asked([other is not None and other < rank for other in ahead])
    return (any if word == "some always" else all)([other is None for other in ahead])


def is_right(world, sentence, told):
    """Point [13], word by word; where parts hold is found by ways."""
    rooms, ranks, below = told
    parts = parts_of(sentence)
    if len(below) != len(parts) or not all(is_right(world, part, each) for part, each in zip(parts, below)):
        return False
    answers = [truths(world, part) for part in parts]
    size, steps = len(world[0]), world[2]
    if not is_time(sentence):
        return ranks is None and rooms == [room for room, is_so in enumerate(truths(world, sentence)) if is_so]
    if ranks is None or len(ranks) != size:
        return False
    if sentence[0].endswith("until"):
        right = [rank_is_right_for_until(sentence[0], ranks, steps, *answers, room) for room in range(size)]
        return all(right) and rooms == [room for room in range(size) if ranks[room] is not None]
    right = [rank_is_right_for_always(sentence[0], ranks, steps, *answers, room) for room in range(size)]
    return all(right) and rooms == [room for room in range(size) if ranks[room] is None]


def other_parts(below):
    """Lists of papers of parts with one left out, put in, or another one, but not with faults of their own."""
    found = [[], below + [([], None, [])], [([], None, [])] + below, below + below, below[::-1]]
    for place, each in enumerate(below):
        found.append(below[:place] + below[place + 1:])
        found.append(below[:place] + [each] + below[place:])
        for other in below + each[2] + [([], None, []), (each[0], each[1], []), (each[0], None, each[2])]:
            found.append(below[:place] + [other] + below[place + 1:])
    return found


def papers_beside(told, size):
    """Papers with one thing otherwise, in the paper itself or in one of any part of it."""
    rooms, ranks, below = told
    found = [(other, ranks, below) for other in other_rooms(rooms, size)]
    found += [(rooms, other, below) for other in other_ranks(ranks, size)]
    found += [(rooms, ranks, other) for other in other_parts(below)]
    for place, each in enumerate(below):
        for other in papers_beside(each, size):
            found.append((rooms, ranks, below[:place] + [other] + below[place + 1:]))
    return [copy.deepcopy(other) for other in found]


class Papers(HallCase):
    def written(self, world, sentence):
        told = self.ask(paper, world, sentence)
        self.is_of_the_kind(told, sentence, len(world[0]))
        self.assertIs(self.ask(is_paper, world, sentence, told), True)
        return told

    def is_of_the_kind(self, told, sentence, size):
        self.assertIsInstance(told, tuple)
        rooms, ranks, below = told
        self.assertIsInstance(rooms, list)
        self.assertIsInstance(below, list)
        if is_time(sentence):
            self.assertIsInstance(ranks, list)
            self.assertEqual(len(ranks), size)
            self.assertTrue(all(rank is None or type(rank) is int and rank >= 0 for rank in ranks))
        else:
            self.assertIsNone(ranks)
        self.assertEqual(len(below), len(parts_of(sentence)))
        for each, part in zip(below, parts_of(sentence)):
            self.is_of_the_kind(each, part, size)

    def all_rooms_are_told(self, world, sentence, told):
        self.same(told[0], holds(world, sentence))
        for each, part in zip(told[2], parts_of(sentence)):
            self.all_rooms_are_told(world, part, each)


class Paper(Papers):
    def test_yes_marks_not_and_or_next(self):
        self.same(self.written(HALL, YES), ([0, 1, 2, 3, 4], None, []))
        self.same(self.written(HALL, A), LEAF_A)
        self.same(self.written(HALL, ("not", A)), ([3, 4], None, [LEAF_A]))
        self.same(self.written(HALL, ("and", A, B)), ([], None, [LEAF_A, LEAF_B]))
        self.same(self.written(HALL, ("or", A, B)), ([0, 1, 2, 3], None, [LEAF_A, LEAF_B]))
        self.same(self.written(HALL, ("some next", B)), ([2, 3, 4], None, [LEAF_B]))
        self.same(self.written(HALL, ("all next", B)), ([3, 4], None, [LEAF_B]))

    def test_untils_and_always(self):
        told = self.written(HALL, ("some until", A, B))
        self.same((told[0], told[2]), ([0, 1, 2, 3], [LEAF_A, LEAF_B]))
        self.assertTrue(0 == told[1][3] < told[1][2] < told[1][1] < told[1][0])
        self.assertIsNone(told[1][4])
        told = self.written(HALL, ("all until", A, B))
        self.same((told[0], told[1], told[2]), ([3], [None, None, None, 0, None], [LEAF_A, LEAF_B]))
        told = self.written(HALL, ("some always", A))
        self.same((told[0], told[2]), ([0, 1], [LEAF_A]))
        self.assertEqual((told[1][:2], told[1][3:]), ([None, None], [0, 0]))
        self.assertGreater(told[1][2], 0)
        told = self.written(HALL, ("all always", A))
        self.same((told[0], told[2]), ([], [LEAF_A]))
        self.assertTrue(0 == told[1][3] == told[1][4] < told[1][2] < told[1][1] < told[1][0])

    def test_equal_parts_have_papers_of_their_own(self):
        part = ("some until", A, B)
        told = self.written(HALL, ("and", part, part))
        self.same(told[2][0], told[2][1])
        self.assertIsNot(told[2][0][1], told[2][1][1])

    def test_told_papers_are_right(self):
        sentences = [sentence for many in (1, 2, 3) for sentence in sentences_of(many, [YES, A, B])]
        for world in worlds_for_sentences()[::2]:
            for sentence in sentences[::2]:
                told = paper(world, sentence)
                self.assertTrue(is_right(world, sentence, told), (world, sentence, told))
                self.assertIs(is_paper(world, sentence, told), True)
            for sentence in sentences[::17]:
                self.all_rooms_are_told(world, sentence, self.written(world, sentence))

    def test_told_papers_of_greater_sentences_are_right(self):
        for world in worlds_for_sentences()[::4]:
            for many in range(4, 30, 5):
                sentence = mixed_sentence(many, many + 1)
                told = self.written(world, sentence)
                self.assertTrue(is_right(world, sentence, told))
                self.all_rooms_are_told(world, sentence, told)

    def test_the_greatest(self):
        great = [chain(word, 23) for word in ONE_PART + TWO_PARTS] + [mixed_sentence(200, seed) for seed in range(2)]
        great += [("not", tree(word, many_leaves(100))) for word in TWO_PARTS]
        for world in (ring(24), full(24), mixed(24, 3), ring(1), full(1)):
            for sentence in great:
                self.all_rooms_are_told(world, sentence, self.written(world, sentence))

    def test_a_ring_of_24(self):
        owners, rows, steps = ring(24)
        rows[0] = ["a"]
        for word in ("some until", "all until"):
            ranks = self.written((owners, rows, steps), (word, YES, A))[1]
            self.assertEqual(ranks[0], 0)
            self.assertTrue(all(ranks[room] > ranks[(room + 1) % 24] for room in range(1, 24)))
        for word in ("some always", "all always"):
            told = self.written((owners, rows, steps), (word, ("not", A)))
            self.assertEqual((told[0], told[1][0]), ([], 0))
            self.assertTrue(all(told[1][room] > told[1][(room + 1) % 24] for room in range(1, 24)))


class IsPaper(Papers):
    def looked_at(self, world, sentence, told):
        answer = is_paper(world, sentence, told)
        self.assertIs(answer, is_right(world, sentence, told), (world, sentence, told))
        return answer

    def test_ranks_with_gaps_are_right(self):
        parts = [LEAF_A, LEAF_B]
        for ranks in ([3, 2, 1, 0, None], [30, 20, 7, 0, None], [FAR, FAR - 1, 1, 0, None], [9, 5, 1, 0, None]):
            self.assertIs(self.ask(is_paper, HALL, ("some until", A, B), ([0, 1, 2, 3], ranks, parts)), True)
        for ranks in ([None, None, 1, 0, 0], [None, None, 5, 0, 0], [None, None, FAR, 0, 0]):
            self.assertIs(self.ask(is_paper, HALL, ("some always", A), ([0, 1], ranks, [LEAF_A])), True)
        for ranks in ([3, 2, 1, 0, 0], [9, 8, 3, 0, 0]):
            self.assertIs(self.ask(is_paper, HALL, ("all always", A), ([], ranks, [LEAF_A])), True)

    def test_ranks_that_are_wrong(self):
        parts = [LEAF_A, LEAF_B]
        wrong = [[2, 2, 1, 0, None], [1, 2, 1, 0, None], [3, 2, 1, 1, None], [3, 2, 0, 0, None], [4, 3, 2, 1, None]]
        wrong += [[3, 2, 1, 0, 0], [3, 2, 1, 0, 1], [None, 2, 1, 0, None], [3, 2, None, 0, None], [3, 2, -1, 0, None]]
        wrong += [[3, 2, 1, None, None], [None] * 5, [3, 2, 1, 0], [3, 2, 1, 0, None, None], [], [3, 1, 2, 0, None]]
        wrong += [[-1, -2, -3, 0, None], [3, 2, 1, -1, None], [3, 2, 1, FAR, None], [3, 1, 1, 0, None], [0, 2, 1, 0, None]]
        for ranks in wrong + [None]:
            for rooms in ([0, 1, 2, 3], [room for room, rank in enumerate(ranks or []) if rank is not None]):
                self.assertIs(self.ask(is_paper, HALL, ("some until", A, B), (rooms, ranks, parts)), False)
        for ranks in [[None, None, 0, 0, 0], [None, 1, 1, 0, 0], [None, 2, 1, 0, 0], [3, 2, 1, 0, 0], [None, None, None, 0, 0]]:
            rooms = [room for room, rank in enumerate(ranks) if rank is None]
            self.assertIs(self.ask(is_paper, HALL, ("some always", A), (rooms, ranks, [LEAF_A])), False)
            self.assertIs(self.ask(is_paper, HALL, ("some always", A), ([0, 1], ranks, [LEAF_A])), False)
        for ranks in [[None, None, None, 0, None], [2, 1, 0, 0, None], [3, 2, 1, 0, None], [None, None, 1, 0, None]]:
            told = ([room for room, rank in enumerate(ranks) if rank is not None], ranks, parts)
            self.assertIs(self.ask(is_paper, HALL, ("all until", A, B), told), ranks == [None, None, None, 0, None])

    def test_ranks_from_nowhere_are_wrong(self):
        # A ring in which each room counts on the next one, and none is at the goal.
        told = ([0, 1, 2], [2, 1, 3], [([0, 1, 2], None, []), ([], None, [])])
        self.assertIs(self.ask(is_paper, ring(3), ("some until", YES, B), told), False)
        told = ([0, 1, 2], [None] * 3, [([0, 1, 2], None, []), ([], None, [])])
        self.assertIs(self.ask(is_paper, ring(3), ("some until", YES, B), told), False)
        self.assertIs(self.ask(is_paper, ring(3), ("some until", YES, B), ([],) + told[1:]), True)

    def test_ranks_left_out_or_put_where_there_are_none(self):
        for sentence in [YES, A, ("not", A), ("and", A, B), ("or", A, B), ("some next", A), ("all next", A)]:
            rooms, _, below = paper(HALL, sentence)
            for ranks in ([], [None] * 5, [0] * 5, [None]):
                self.assertIs(self.ask(is_paper, HALL, sentence, (rooms, ranks, below)), False)
        for sentence in [("some until", A, B), ("all until", A, B), ("some always", A), ("all always", A), ("some until", YES, YES)]:
            rooms, _, below = paper(HALL, sentence)
            self.assertIs(self.ask(is_paper, HALL, sentence, (rooms, None, below)), False)
            self.assertIs(self.ask(is_paper, HALL, sentence, (rooms, [], below)), False)

    def test_papers_of_parts_that_are_wrong_though_the_rest_is_right(self):
        whole = (list(range(5)), None, [([0, 1, 2, 3, 4], None, []), LEAF_A])
        self.assertIs(self.ask(is_paper, HALL, ("or", YES, A), whole), True)
        for wrong in [([0, 1], None, []), ([0, 1, 2], [0] * 5, []), ([0, 1, 2], None, [LEAF_A]), LEAF_B, ([2, 1, 0], None, [])]:
            self.assertIs(self.ask(is_paper, HALL, ("or", YES, A), whole[:2] + ([whole[2][0], wrong],)), False)
        self.assertIs(self.ask(is_paper, HALL, ("or", YES, A), whole[:2] + (whole[2][::-1],)), False)

    def test_papers_that_hang_together_but_are_of_other_rooms(self):
        # All above the leaf is as it should be if the leaf were right.
        told = ([2, 3, 4], None, [([0, 1], None, [])])
        self.assertIs(self.ask(is_paper, HALL, ("not", A), told), False)
        told = ([0, 1, 2], [2, 1, 0, None, None], [LEAF_A, ([2], None, [])])
        self.assertIs(self.ask(is_paper, HALL, ("some until", A, B), told), False)

    def test_the_paper_of_another_sentence_or_world(self):
        sentences = [YES, A, B, ("not", A), ("and", A, B), ("some next", A), ("some until", A, B), ("some always", A)]
        for one in sentences:
            for other in sentences:
                self.assertIs(self.ask(is_paper, HALL, one, paper(HALL, other)), one == other)
            for world in (ring(5), full(5), ring(4), full(24)):
                self.looked_at_simply(one, world)

    def looked_at_simply(self, sentence, world):
        told = paper(world, sentence)
        ways_are_few = len(world[0]) < 6
        answer = self.ask(is_paper, HALL, sentence, told)
        self.assertIs(answer, is_right(HALL, sentence, told) if ways_are_few else False)

    def test_papers_with_one_thing_otherwise(self):
        sentences = [YES, A, NEVER] + [(word, A) for word in ONE_PART] + [(word, A, B) for word in TWO_PARTS]
        sentences += [(word, B, C) for word in TWO_PARTS[2:]] + [(word, ("or", A, B)) for word in ONE_PART[3:]]
        worlds = [HALL] + worlds_for_sentences()[3::4]
        counts = [0, 0]
        for world in worlds:
            for sentence in sentences:
                for told in papers_beside(paper(world, sentence), len(world[0])):
                    counts[self.looked_at(world, sentence, told)] += 1
        self.assertGreater(min(counts), 500)

    def test_papers_of_greater_sentences_with_one_thing_otherwise(self):
        sentences = [("some until", ("all always", A), ("not", B)), ("all until", ("some next", A), ("some always", B))]
        sentences += [("some always", ("some until", A, B)), ("all always", ("all until", YES, ("and", A, A)))]
        for world in [HALL] + worlds_for_sentences()[5::9]:
            for sentence in sentences + [mixed_sentence(6, 2)]:
                for told in papers_beside(paper(world, sentence), len(world[0])):
                    self.looked_at(world, sentence, told)

    def test_what_is_handed_in_stays_as_it_is(self):
        for sentence in [("some until", A, B), ("not", ("all always", A)), ("and", A, B)]:
            for told in papers_beside(paper(HALL, sentence), 5)[::7]:
                answer = self.ask(is_paper, HALL, sentence, told)
                self.assertIsInstance(answer, bool)

    def test_a_list_that_stands_in_many_places(self):
        rooms, below = [0, 1, 2], []
        leaf = (rooms, None, below)
        self.assertIs(self.ask(is_paper, HALL, ("and", A, A), (rooms, None, [leaf, leaf])), True)
        self.assertIs(self.ask(is_paper, HALL, ("or", A, A), (rooms, None, [leaf, leaf])), True)

    def test_papers_that_are_deep_or_wide(self):
        told = ([], None, [])
        for _ in range(58):
            told = ([], None, [told])
        for sentence in [A, chain("not", 23), chain("some next", 23), ("and", A, B)]:
            self.assertIs(self.ask(is_paper, HALL, sentence, told), False)
        wide = (list(range(120)), [0] * 120, [([], None, []) for _ in range(120)])
        for sentence in [YES, A, ("not", A), ("and", A, B), ("some until", A, B), ("all always", A)]:
            self.assertIs(self.ask(is_paper, HALL, sentence, wide), False)

    def test_the_greatest_with_a_fault_far_within(self):
        for sentence in [chain("some next", 23), chain("some until", 23), chain("all always", 23)]:
            told = paper(HALL, sentence)
            inner = told
            for _ in range(23):
                inner = inner[2][-1]
            self.assertIs(is_paper(HALL, sentence, told), True)
            inner[0].append(4)
            self.assertIs(self.ask(is_paper, HALL, sentence, told), False)


class Refusals(HallCase):
    def test_no_world(self):
        for wrong, world in wrong_worlds():
            with self.subTest(wrong):
                self.refused(NoWorld, paper, world, A)
                self.refused(NoWorld, is_paper, world, A, ([], None, []))

    def test_no_sentence(self):
        for wrong, some in wrong_sentences():
            with self.subTest(wrong):
                self.refused(NoSentence, paper, HALL, some)
                self.refused(NoSentence, is_paper, HALL, some, ([], None, []))

    def test_the_world_goes_ahead_of_the_sentence(self):
        for wrong, some in wrong_sentences():
            self.refused(NoWorld, paper, WRONG_WORLD, some)
            self.refused(NoWorld, is_paper, WRONG_WORLD, some, ([], None, []))


if __name__ == "__main__":
    unittest.main()
