"""What all tests share: point [1] is looked after at each call, and worlds and sentences are made to ask of."""

import copy
import itertools
import unittest

from foreseehall.errors import HallError, NoPlayer, NoRoom, NoWorld
from foreseehall.plans import way_by

LETTERS = "abcdef"
FAR = 10 ** 59


def lists_in(value):
    """All lists within a value, itself too, one entry for each place where one stands."""
    found = [value] if isinstance(value, list) else []
    if isinstance(value, (list, tuple)):
        for entry in value:
            found = found + lists_in(entry)
    return found


def spoil(value):
    for entries in lists_in(value):
        entries.append("spoiled")
        entries.reverse()


def ring(size):
    """A world whose rooms go round, each with one step, no marks, all of player 0."""
    return ([0] * size, [[] for _ in range(size)], [[(room + 1) % size] for room in range(size)])


def full(size):
    """A world with all steps and all marks, all of player 1."""
    return ([1] * size, [list(LETTERS) for _ in range(size)], [list(range(size)) for _ in range(size)])


def some_of(entries):
    """All choices of some entries, none among them, each as a list in the same order."""
    entries = list(entries)
    return [
        [entry for place, entry in enumerate(entries) if choice >> place & 1] for choice in range(2 ** len(entries))
    ]


def worlds_of(size):
    """A world for each way in which steps may lead, with owners and marks that change from one to the next."""
    rows = [row for row in some_of(range(size)) if row]
    for number, steps in enumerate(itertools.product(rows, repeat=size)):
        owners = [number // 3 + room & 1 for room in range(size)]
        marks = [[letter for k, letter in enumerate(LETTERS) if number + room * 5 >> k & 1] for room in range(size)]
        yield (owners, marks, [list(row) for row in steps])


def mixed(size, seed):
    """A world of any size with steps that go here and there; the same one for the same seed."""
    state = seed * 7919 + size
    owners, marks, steps = [], [], []
    for room in range(size):
        state = (state * 1103515245 + 12345) % 2 ** 31
        owners.append(state >> 20 & 1)
        marks.append([letter for k, letter in enumerate(LETTERS) if state >> k + 8 & 1])
        steps.append(sorted({(state >> 5) % size, (state >> 11) % size, (state >> 17) % size}))
    return (owners, marks, steps)


def plain(world, letters="a"):
    """The same world with fewer marks, so that more rooms are alike."""
    return (world[0], [[letter for letter in row if letter in letters] for row in world[1]], world[2])


def wrong_worlds():
    """Tuples of the kind of a world that are none, each with what is wrong with it."""
    return [
        ("no rooms", ([], [], [])),
        ("25 rooms", ring(25)),
        ("26 rooms, all steps", full(26)),
        ("120 rooms", ring(120)),
        ("owners too few", ([0], [[], []], [[0], [1]])),
        ("owners too many", ([0, 0, 0], [[], []], [[0], [1]])),
        ("no owners", ([], [[]], [[0]])),
        ("marks too few", ([0, 0], [[]], [[0], [1]])),
        ("marks too many", ([0, 0], [[], [], []], [[0], [1]])),
        ("no marks' list", ([0], [], [[0]])),
        ("steps too few", ([0, 0], [[], []], [[0]])),
        ("steps too many", ([0, 0], [[], []], [[0], [1], [0]])),
        ("no steps' list", ([0], [[]], [])),
        ("owner 2", ([2], [[]], [[0]])),
        ("owner below 0", ([-1], [[]], [[0]])),
        ("last owner 2", ([0, 1, 2], [[], [], []], [[0], [1], [2]])),
        ("far owner", ([FAR], [[]], [[0]])),
        ("owner far below 0", ([-FAR], [[]], [[0]])),
        ("mark g", ([0], [["g"]], [[0]])),
        ("mark behind f", ([0], [["a", "g"]], [[0]])),
        ("great letter", ([0], [["A"]], [[0]])),
        ("empty mark", ([0], [[""]], [[0]])),
        ("empty mark ahead", ([0], [["", "a"]], [[0]])),
        ("mark of two letters", ([0], [["ab"]], [[0]])),
        ("mark of a letter twice", ([0], [["aa"]], [[0]])),
        ("mark of all letters", ([0], [["abcdef"]], [[0]])),
        ("mark of another sign", ([0], [["`"]], [[0]])),
        ("blank mark", ([0], [[" "]], [[0]])),
        ("mark with a line end", ([0], [["a\n"]], [[0]])),
        ("mark twice", ([0], [["a", "a"]], [[0]])),
        ("last mark twice", ([0], [["a", "b", "f", "f"]], [[0]])),
        ("marks out of order", ([0], [["b", "a"]], [[0]])),
        ("last marks out of order", ([0], [["a", "c", "b"]], [[0]])),
        ("wrong mark in the last room", ([0, 0], [["a"], ["b", "a"]], [[0], [1]])),
        ("no steps", ([0], [[]], [[]])),
        ("no steps from the last room", ([0, 0], [[], []], [[0, 1], []])),
        ("step beyond", ([0], [[]], [[1]])),
        ("step beyond, behind another", ([0, 0], [[], []], [[0, 2], [1]])),
        ("step beyond in the last room", ([0, 0], [[], []], [[1], [1, 2]])),
        ("step far beyond", ([0], [[]], [[FAR]])),
        ("step below 0", ([0], [[]], [[-1]])),
        ("step below 0, ahead of another", ([0, 0], [[], []], [[-1, 0], [1]])),
        ("step far below 0", ([0], [[]], [[-FAR]])),
        ("step twice", ([0], [[]], [[0, 0]])),
        ("last step twice", ([0, 0], [[], []], [[0, 1, 1], [1]])),
        ("steps out of order", ([0, 0], [[], []], [[1, 0], [1]])),
        ("steps out of order in the last room", ([0, 0, 0], [[], [], []], [[0], [1], [0, 2, 1]])),
    ]


ONE_PART = ["not", "some next", "all next", "some always", "all always"]
TWO_PARTS = ["and", "or", "some until", "all until"]
YES = ("yes",)
NEVER = ("not", YES)
A, B, C, D, E, F = [("mark", letter) for letter in LETTERS]

# Every sign that may stand in a text that is handed in.
SIGNS = "\t\n" + "".join(chr(number) for number in range(ord(" "), ord("~") + 1) if number != ord("%"))


def texts_beside(text, signs=SIGNS):
    """All texts that have one sign less, one more or another one, each once, the text itself not."""
    found = {}
    for place in range(len(text) + 1):
        found[text[:place] + text[place + 1:]] = True
        for sign in signs:
            found[text[:place] + sign + text[place:]] = True
            found[text[:place] + sign + text[place + 1:]] = True
    return [other for other in found if other != text]


def parts_of(sentence):
    return [] if sentence[0] == "mark" else list(sentence[1:])


def tuples_in(sentence):
    """All tuples of a sentence, itself among them, one entry for each place where one stands."""
    found = [sentence]
    for part in parts_of(sentence):
        found = found + tuples_in(part)
    return found


def depth_of(sentence):
    return 1 + max([depth_of(part) for part in parts_of(sentence)], default=0)


def sentences_of(many, leaves):
    """All sentences of so many words, of all words and these leaves."""
    by_words = {1: list(leaves)}
    for size in range(2, many + 1):
        found = [(word, part) for word in ONE_PART for part in by_words[size - 1]]
        for first in range(1, size - 1):
            for one in by_words[first]:
                for other in by_words[size - 1 - first]:
                    found += [(word, one, other) for word in TWO_PARTS]
        by_words[size] = found
    return by_words[many]


def chain(word, many, leaf=A):
    """A sentence in which a word stands so many times within itself, the last time of a leaf."""
    told = leaf
    for _ in range(many):
        told = (word, told) if word in ONE_PART else (word, B, told)
    return told


def tree(word, leaves):
    """A sentence of a word of two parts with these leaves, as flat as can be."""
    if len(leaves) == 1:
        return leaves[0]
    half = len(leaves) // 2
    return (word, tree(word, leaves[:half]), tree(word, leaves[half:]))


def many_leaves(many):
    return [("mark", LETTERS[number % 6]) for number in range(many)]


def mixed_sentence(many, seed):
    """A sentence of so many words, any words here and there; the same one for the same seed."""
    state = (seed * 7919 + many) * 1103515245 % 2 ** 31
    state = (state * 1103515245 + 12345) % 2 ** 31
    draw = state >> 12
    if many == 1:
        return YES if draw % 9 == 0 else ("mark", LETTERS[draw % 6])
    if many == 2 or draw % 4 == 0:
        return (ONE_PART[draw // 4 % 5], mixed_sentence(many - 1, draw))
    first = 1 + draw // 16 % (many - 2) if many < 12 else (many - 1) // 2
    rest = mixed_sentence(many - 1 - first, draw + 5)
    return (TWO_PARTS[draw // 4 % 4], mixed_sentence(first, draw + 2), rest)


def some_sentences():
    """Each word, small ones of each kind, and the greatest that there are."""
    small = [sentence for many in (1, 2, 3) for sentence in sentences_of(many, [YES, A])]
    middle = [mixed_sentence(many, seed) for many in range(4, 30) for seed in range(2)]
    deep = [chain(word, 23) for word in ONE_PART + TWO_PARTS]
    wide = [tree(word, many_leaves(100)) for word in TWO_PARTS]
    whole = [("not", sentence) for sentence in wide] + [mixed_sentence(200, seed) for seed in range(3)]
    return small + middle + deep + wide + whole


def nested(many):
    """A tuple that has itself twice in each tuple above: a few tuples in very many places."""
    told = A
    for _ in range(many):
        told = ("and", told, told)
    return told


def wrong_sentences():
    """Tuples of texts and tuples that are no sentences, each with what is wrong with it."""
    found = [
        ("nothing", ()),
        ("an empty tuple within", ("not", ())),
        ("an empty tuple as first part", ("and", (), A)),
        ("an empty tuple as last part", ("and", A, ())),
        ("a tuple of an empty tuple", ((),)),
        ("a sentence within a tuple", (A,)),
        ("a tuple as a word", (("not",), A)),
        ("two sentences without a word", (A, B)),
        ("a text where a sentence is due", ("not", "a")),
        ("yes as a text", ("not", "yes")),
        ("a sentence as a text", ("not", "not(a)")),
        ("a text as first part", ("and", "a", A)),
        ("a text as last part", ("and", A, "a")),
        ("a tuple as a letter", ("mark", ("a",))),
        ("a mark as a letter", ("mark", A)),
        ("an empty tuple as a letter", ("mark", ())),
        ("mark without a letter", ("mark",)),
        ("mark of two letters", ("mark", "a", "b")),
        ("a letter as a word", ("a",)),
        ("a letter and a sentence", ("a", A)),
        ("yes with an empty text", ("yes", "")),
        ("yes with an empty tuple", ("yes", ())),
        ("yes with a letter", ("yes", "a")),
        ("yes with yes", ("yes", YES)),
        ("an empty word", ("",)),
        ("an empty word of a sentence", ("", A)),
        ("an empty word of two", ("", A, B)),
        ("201 words", tree("and", many_leaves(101))),
        ("201 words, not too deep", ("some next", ("not", tree("or", many_leaves(100))))),
        ("202 words", ("not", tree("or", many_leaves(101)))),
        ("399 words", tree("some until", many_leaves(200))),
        ("depth 25 in the first part", ("and", chain("not", 23), A)),
        ("depth 25 in the last part", ("or", A, chain("all next", 23))),
        ("a few tuples in too many places", nested(7)),
        ("a wrong leaf far within", chain("some always", 22, ("mark", "g"))),
        ("a wrong leaf among many", tree("all until", many_leaves(99) + [("mark", "")])),
        ("a text far within", chain("and", 22, "a")),
    ]
    for mark in WRONG_MARKS:
        found.append((f"mark {mark[:9]!r}", ("mark", mark)))
        found.append((f"mark {mark[:9]!r} within", ("or", B, ("not", ("mark", mark)))))
    for word in ONE_PART + TWO_PARTS:
        found += [(f"{word} of {many}", (word,) + (A,) * many) for many in range(5) if many != (word in TWO_PARTS) + 1]
        found += [(f"{word}, depth {many + 1}", chain(word, many)) for many in (24, 25, 59)]
    odd = ["no", "Yes", "YES", "yes ", " yes", "true", "Not", "NOT", "not ", "some", "all", "next", "always", "until"]
    odd += ["some  next", "somenext", "some_next", "Some next", "all Next", "some next ", " all next", "all\tnext"]
    odd += ["some until\n", "until some", "some and", "some or", "some not", "xor", "implies", "Mark", "marks", "b" * 3000]
    for word in odd:
        found += [(f"the word {word[:12]!r}", (word,) + (A,) * many) for many in (0, 1, 2)]
        found.append((f"the word {word[:12]!r} within", ("not", (word, A))))
    return found


def ways_from(world, room):
    """Ways as lists of rooms, each up to where it comes again to a room where it was: there it goes round."""
    found, waiting = [], [[room]]
    while waiting:
        way = waiting.pop()
        for there in world[2][way[-1]]:
            if there in way:
                found.append(way)
            else:
                waiting.append(way + [there])
    return found


def holds_until(way, first, second):
    return any(second[here] and all(first[there] for there in way[:place]) for place, here in enumerate(way))


def truths(world, sentence):
    """For each room whether a sentence holds, by the very words of point [10], ways gone through one by one."""
    size = len(world[0])
    word, parts = sentence[0], [truths(world, part) for part in parts_of(sentence)]
    if word in ("yes", "mark"):
        return [word == "yes" or sentence[1] in world[1][room] for room in range(size)]
    if word == "not":
        return [not here for here in parts[0]]
    if word in ("and", "or"):
        return [(all if word == "and" else any)([part[room] for part in parts]) for room in range(size)]
    asked = any if word.startswith("some") else all
    if word.endswith("next"):
        return [asked([parts[0][there] for there in world[2][room]]) for room in range(size)]
    if word.endswith("until"):
        return [asked([holds_until(way, *parts) for way in ways_from(world, room)]) for room in range(size)]
    return [asked([all(parts[0][here] for here in way) for way in ways_from(world, room)]) for room in range(size)]


def worlds_for_sentences():
    """Small worlds in which the ways of words of time part, with few marks, so that sentences of them differ."""
    small = [world for size in (1, 2) for world in worlds_of(size)] + list(worlds_of(3))[::23]
    few = [
        ([0, 1, 0], [["a"], ["b"], []], [[0, 1], [2], [0]]),
        ([1, 1, 0, 0], [["a"], ["a"], ["b"], []], [[1, 3], [1, 2], [0], [3]]),
        ([0, 0, 0, 0], [[], ["a"], ["a", "b"], ["c"]], [[1, 2], [0, 3], [2], [1, 3]]),
    ]
    return small + few + [mixed(4, seed) for seed in range(3)]


def all_alike(world, owned):
    """All pairs of rooms that are alike: of all pairs, those go that can't be among such as show likeness."""
    size = len(world[0])
    pairs = set(itertools.product(range(size), repeat=2))
    ahead = None
    while pairs != ahead:
        ahead = pairs
        pairs = {pair for pair in ahead if is_borne(world, pair, ahead, owned)}
    return pairs


def is_borne(world, pair, pairs, owned):
    owners, marks, steps = world
    one, other = pair
    return (
        marks[one] == marks[other]
        and (not owned or owners[one] == owners[other])
        and all(any((here, there) in pairs for there in steps[other]) for here in steps[one])
        and all(any((here, there) in pairs for here in steps[one]) for there in steps[other])
    )


def along(way, many):
    """The rooms of a way at its first places."""
    front, ring_of_it = way
    return list(itertools.islice(itertools.chain(front, itertools.cycle(ring_of_it)), many))


def leads(world, rooms):
    """All pairs of rooms such that some steps, one at least, lead within some rooms from the one to the other."""
    found = {(here, there) for here in rooms for there in world[2][here] if there in rooms}
    for middle in rooms:
        ahead = [there for there in rooms if (middle, there) in found]
        found |= {(here, there) for here in rooms if (here, middle) in found for there in ahead}
    return found


def fair_of(world, rooms, marks):
    """The fair rooms: from them one comes to a room that one comes back to, by each of the marks."""
    found = leads(world, rooms)
    by_mark = [[room for room in rooms if mark in world[1][room]] for mark in marks]
    rings = [
        room for room in rooms if (room, room) in found
        and all(any((room, there) in found and (there, room) in found for there in marked) for marked in by_mark)
    ]
    return [room for room in rooms if room in rings or any((room, there) in found for there in rings)]


def is_fair(world, rooms, marks, way):
    """Point [30], word by word, of a way for which nothing else is sure."""
    front, around = way
    places = along(way, len(front) + 2 * len(around) + 1) if around else []
    is_way = around and all(there in world[2][here] for here, there in zip(places, places[1:]))
    has_all = all(any(mark in world[1][room] for room in around) for mark in marks)
    return bool(is_way and set(places) <= set(rooms) and has_all)


def worlds_for_fair():
    """Small worlds with few marks, so that some ways are fair and others are not."""
    small = [plain(world, "ab") for size in (1, 2) for world in worlds_of(size)]
    small += [plain(world, "ab") for world in list(worlds_of(3))[::13]]
    return small + [plain(mixed(size, seed), "ab") for size in (4, 5) for seed in range(6)]


def owned_by(world, owners):
    return (list(owners), world[1], world[2])


def games():
    """Small worlds for two players, all of one player's among them, with few enough plans to go through them all."""
    small = [owned_by(world, owners) for world in worlds_of(2) for owners in itertools.product((0, 1), repeat=2)]
    owners = itertools.cycle(itertools.product((0, 1), repeat=3))
    small += [owned_by(world, next(owners)) for world in list(worlds_of(3))[::9]]
    return [ring(1), full(1)] + small + [mixed(4, seed) for seed in range(12)] + [mixed(5, seed) for seed in range(4)]


def great_games():
    """Worlds of 24 rooms: a ring, all steps, some steps, each player's alone and both players'."""
    halves = [room % 2 for room in range(24)]
    rows = ([0] * 24, [[] for _ in range(24)], [sorted({max(room - 1, 0), min(room + 1, 23)}) for room in range(24)])
    shared = [owned_by(world, halves) for world in (ring(24), full(24), rows)]
    return shared + [ring(24), full(24), rows, owned_by(rows, [1] * 24), mixed(24, 1), mixed(24, 2), mixed(23, 3)]


def whole_plans(world, player):
    """All plans of a player that have a step in each of its rooms."""
    rows = [steps if owner == player else [None] for owner, steps in zip(world[0], world[2])]
    return [list(plan) for plan in itertools.product(*rows)]


def some_plans(world, player):
    """All plans of a player."""
    rows = [[None] + steps if owner == player else [None] for owner, steps in zip(world[0], world[2])]
    return [list(plan) for plan in itertools.product(*rows)]


def is_a_plan(world, player, plan):
    """Point [34], word by word."""
    owners, _, steps = world
    if len(plan) != len(owners):
        return False
    others = [there for room, there in enumerate(plan) if owners[room] != player]
    return others == [None] * len(others) and all(there is None or there in steps[room] for room, there in enumerate(plan))


def brings(world, player, rooms, ranks, plan):
    """Point [36], word by word, what a plan is by point [34]."""
    owners, _, steps = world
    if len(ranks) != len(owners) or any(rank is not None and rank < 0 for rank in ranks):
        return False
    if not is_a_plan(world, player, plan):
        return False
    for room, rank in enumerate(ranks):
        ahead = [ranks[there] for there in steps[room]]
        lower = [rank is not None and other is not None and other < rank for other in ahead]
        if (rank == 0) != (room in rooms):
            return False
        if rank is not None and rank > 0 and owners[room] == player:
            if plan[room] is None or not lower[steps[room].index(plan[room])]:
                return False
        if rank is not None and rank > 0 and owners[room] != player and not all(lower):
            return False
        if rank is None and owners[room] == player and any(other is not None for other in ahead):
            return False
        if rank is None and owners[room] != player and all(other is not None for other in ahead):
            return False
    return True


def ways_by_plans(world, player, plan, room):
    """All ways from a room when the player goes by a plan, for all plans of the other one."""
    for counter in whole_plans(world, 1 - player):
        yield way_by(world, *((plan, counter) if player == 0 else (counter, plan)), room)


def filled(world, player, plan):
    """A plan with a step in each of the player's rooms; where it has none, any will do."""
    return [row[-1] if owner == player and there is None else there for owner, row, there in zip(world[0], world[2], plan)]


def some_rooms(size):
    """Some lists of told rooms: all lists in small worlds, and in others none, all, one and many."""
    rooms = list(range(size))
    if size < 4:
        return some_of(rooms)
    return [[], rooms, [0], [size - 1], rooms[1:], rooms[::3], rooms[1::2], rooms[size // 2:], [1, size - 2]]


def other_plans(plan, world):
    """Lists with one thing otherwise than in a plan, whether they are plans or not."""
    size = len(plan)
    found = [[], [None] * size, plan + [None], plan + [0], [None] + plan, plan[:-1], plan[1:], plan + plan, plan[::-1]]
    found += [[steps[0] for steps in world[2]], [steps[-1] for steps in world[2]]]
    for room in range(size):
        others = [None, -1, -size, size, FAR, -FAR] + list(range(size))
        found += [plan[:room] + [there] + plan[room + 1:] for there in others]
    return found


def other_rooms(rooms, size):
    """Lists of rooms with one thing otherwise."""
    yield from [rooms[:place] + rooms[place + 1:] for place in range(len(rooms))]
    yield from [sorted(rooms + [room]) for room in range(size)]
    yield from [rooms + [room] for room in (-1, 0, size - 1, size, size + 1, FAR)]
    yield from [[room] + rooms for room in (-FAR, -1, 0, size)]
    yield from [rooms[::-1], rooms + rooms, [], list(range(size)), [room + 1 for room in rooms], [-room for room in rooms]]


def other_ranks(ranks, size):
    """Ranks with one thing otherwise, of those that have none too."""
    if ranks is None:
        return [[], [None] * size, [0] * size, [None], list(range(size))]
    found = [None, [], [None] * size, [0] * size, ranks + [None], ranks + [0], [None] + ranks, [0] + ranks, ranks + ranks]
    found += [ranks[:-1], ranks[1:], ranks[::-1], [rank and 7 * rank for rank in ranks], [rank and -rank for rank in ranks]]
    found += [[rank and rank + 1 for rank in ranks], [rank and rank - 1 for rank in ranks]]
    found += [[None if rank == 0 else rank for rank in ranks], [0 if rank is None else rank for rank in ranks]]
    for room, rank in enumerate(ranks):
        near = [] if rank is None else [rank - 1, rank + 1]
        found += [ranks[:room] + [other] + ranks[room + 1:] for other in [None, -1, 0, 1, 2, 9, FAR, -FAR] + near]
    return found


def wrong_lists(size):
    """Lists of numbers that are no rising lists of the rooms of a world of this size."""
    last = size - 1
    found = [[0, 0], [last, last], [last, 0, 0], [-1], [-1, 0], [0, -1], [size], [0, size], [size, 0], [FAR], [-FAR]]
    found += [[-FAR, 0], [0, FAR], [-size], list(range(size)) + [last], list(range(size + 1)), [0] + list(range(size))]
    found += [list(range(-1, size)), [0] * 120, list(range(120))]
    if size > 1:
        found += [[1, 0], list(range(size))[::-1], [0, last, 0], [last, 0], [0, 1, 0]]
    return found


WRONG_WORLD = ([0], [[]], [[1]])
WRONG_PLAYERS = [-1, -2, 2, 3, 24, FAR, -FAR]
WRONG_ROOMS = [-1, -2, -24, -FAR, 24, 25, FAR]
WRONG_MARKS = ["", "g", "A", "F", "ab", "aa", "abcdef", "bc", "a ", " a", " ", "\n", "a\n", "`", "0", "mark", "b" * 3000]
WRONG_MARK_LISTS = [[mark] for mark in WRONG_MARKS] + [["a", mark] for mark in WRONG_MARKS] + [
    ["a", "a"], ["f", "f"], ["b", "a"], ["a", "c", "b"], ["a", "b", "b"], list("abcdef") + ["f"], list("fedcba"),
    ["", "a"], ["a", "b", "c", "d", "e", "f", "g"], ["a"] * 120,
]


class HallCase(unittest.TestCase):
    def same(self, told, asked):
        """Alike to the kinds of all within: no True for 1, no tuple for a list."""
        self.assertEqual(repr(told), repr(asked))

    def ask(self, function, *handed):
        """What a function tells; on the way, all that point [1] says of any call."""
        ahead = copy.deepcopy(handed)
        first = function(*handed)
        second = function(*handed)
        self.same(handed, ahead)
        self.same(first, second)
        self.no_list_is_shared([first, second], handed)
        answer = copy.deepcopy(first)
        spoil(first)
        self.same(handed, ahead)
        self.same(second, answer)
        self.same(function(*handed), answer)
        self.nothing_hangs_on_what_was_handed_in(function, ahead, answer)
        return answer

    def no_list_is_shared(self, told, handed):
        # Lists that were handed in may be one another's, those that are told not.
        names = [id(entries) for value in told for entries in lists_in(value)]
        self.assertEqual(len(names), len(set(names)))
        self.assertEqual(set(names) & {id(entries) for entries in lists_in(handed)}, set())

    def nothing_hangs_on_what_was_handed_in(self, function, ahead, answer):
        handed = copy.deepcopy(ahead)
        told = function(*handed)
        spoil(handed)
        self.same(told, answer)
        self.same(function(*copy.deepcopy(ahead)), answer)

    def refused(self, kind, function, *handed):
        """It is refused with just this class, time and again, and nothing handed in is changed."""
        ahead = copy.deepcopy(handed)
        for taken in (kind, HallError, ValueError, kind):
            with self.assertRaises(taken) as caught:
                function(*handed)
            self.assertIs(type(caught.exception), kind)
        self.same(handed, ahead)


class RefusalsOfTelling:
    """What all refuse that ask for a world, a player and told rooms; asked(kind, world, player, rooms) asks them."""

    def test_no_world(self):
        for wrong, world in wrong_worlds():
            with self.subTest(wrong):
                self.asked(NoWorld, world, 0, [])
                self.asked(NoWorld, world, 2, [-1])

    def test_no_player(self):
        for player in WRONG_PLAYERS:
            for rooms in ([], [0, 1], [1, 0], [5]):
                self.asked(NoPlayer, mixed(5, 1), player, rooms)
                self.asked(NoWorld, WRONG_WORLD, player, rooms)

    def test_no_rooms(self):
        for world in (mixed(5, 1), ring(1), full(24)):
            for rooms in wrong_lists(len(world[0])):
                for player in (0, 1):
                    self.asked(NoRoom, world, player, rooms)
                self.asked(NoPlayer, world, -1, rooms)
