"""Sentences: a tuple of a word and its parts, of not too many words and not too deep."""

from foreseehall.errors import NoSentence
from foreseehall.worlds import LETTERS

MOST_WORDS = 200
MOST_DEPTH = 24

# How many sentences stand behind a word. A mark is not here: behind it stands a letter.
PARTS = {
    "yes": 0,
    "not": 1,
    "some next": 1,
    "all next": 1,
    "some always": 1,
    "all always": 1,
    "and": 2,
    "or": 2,
    "some until": 2,
    "all until": 2,
}


def parts_of(sentence):
    return () if sentence[0] == "mark" else sentence[1:]


# The tuple by itself; whether its parts are sentences is not looked at.
def is_formed(some):
    if not isinstance(some, tuple) or len(some) == 0 or not isinstance(some[0], str):
        return False
    if some[0] == "mark":
        return len(some) == 2 and some[1] in LETTERS
    return some[0] in PARTS and len(some) == 1 + PARTS[some[0]]


def parts_of_all(sentences):
    found = []
    for sentence in sentences:
        found.extend(parts_of(sentence))
    return found


# All tuples by how deep they stand, or None where it is no sentence. It ends as soon as there are too many,
# so that a tuple that stands in many places, and so on within itself, is no long work.
def layers_of(some):
    layers = []
    layer = [some]
    many = 0
    while layer:
        many += len(layer)
        if many > MOST_WORDS or len(layers) == MOST_DEPTH or not all([is_formed(each) for each in layer]):
            return None
        layers.append(layer)
        layer = parts_of_all(layer)
    return layers


def is_sentence(some):
    return layers_of(some) is not None


def checked_layers(sentence):
    layers = layers_of(sentence)
    if layers is None:
        raise NoSentence("no sentence: a word or its parts are wrong, or there are too many of them")
    return layers


def check_sentence(sentence):
    checked_layers(sentence)


def words(sentence):
    return sum([len(layer) for layer in checked_layers(sentence)])


def depth(sentence):
    return len(checked_layers(sentence))


def marks_of(sentence):
    letters = []
    for layer in checked_layers(sentence):
        letters.extend([each[1] for each in layer if each[0] == "mark"])
    return sorted(set(letters))
