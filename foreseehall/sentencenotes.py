"""Sentences as texts: a word and its parts in brackets, a mark by its letter."""

from foreseehall.errors import NoNote
from foreseehall.sentences import MOST_DEPTH, PARTS, check_sentence, is_sentence
from foreseehall.worlds import LETTERS

BEHIND_WORDS = ("(", ")", ",")


def text_of(sentence):
    word = sentence[0]
    if word == "yes":
        return word
    if word == "mark":
        return sentence[1]
    parts = ", ".join([text_of(part) for part in sentence[1:]])
    return f"{word}({parts})"


def shown(sentence):
    check_sentence(sentence)
    return text_of(sentence)


def word_at(text, start):
    end = start
    while end < len(text) and text[end] not in BEHIND_WORDS:
        end += 1
    return text[start:end]


def behind(text, place, sign):
    if not text.startswith(sign, place):
        raise NoNote("no note: a bracket, or a comma and a blank, is not where it is due")
    return place + len(sign)


# Tells the sentence that begins at a place, and the place behind it. Deeper than a sentence may be it does not go.
def sentence_at(text, start, level):
    word = word_at(text, start)
    place = start + len(word)
    if word in LETTERS:
        return (("mark", word), place)
    if word == "yes":
        return ((word,), place)
    if word not in PARTS or level == MOST_DEPTH:
        raise NoNote("no note: there is no word of a sentence, or it stands too deep")
    told = (word,)
    for k in range(PARTS[word]):
        found = sentence_at(text, behind(text, place, ", " if k else "("), level + 1)
        told = told + (found[0],)
        place = found[1]
    return (told, behind(text, place, ")"))


def read(text):
    found = sentence_at(text, 0, 1)
    if found[1] != len(text) or not is_sentence(found[0]):
        raise NoNote("no note: the sentence ends too early, or has too many words")
    return found[0]
