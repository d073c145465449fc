"""Other forms of sentences: opposites, the base form, and shorter ones."""

from foreseehall.errors import TooGreat
from foreseehall.sentences import check_sentence, is_sentence, parts_of

YES = ("yes",)
NEVER = ("not", ("yes",))

# Words that are told in the base form by where they don't hold.
TURNED = ("or", "all next", "all always")
# Words for which the base form asks where their parts don't hold.
OF_OPPOSITES = ("or", "all next", "all always", "all until")


def opposite_of(sentence):
    return sentence[1] if sentence[0] == "not" else ("not", sentence)


def opposite(sentence):
    check_sentence(sentence)
    return opposite_of(sentence)


# An all until fails on a way where the second part never comes, or where both fail before it comes.
def all_until_of_opposites(first, second):
    comes = ("not", ("some always", second))
    if first == NEVER:
        return comes
    return ("and", comes, ("not", ("some until", second, ("and", first, second))))


# Of the words in TURNED the answer holds just where they do not.
def base_of_parts(sentence, parts):
    word = sentence[0]
    if word == "or":
        return ("and", parts[0], parts[1])
    if word == "all next":
        return ("some next", parts[0])
    if word == "all always":
        return ("some until", YES, parts[0])
    if word == "all until":
        return all_until_of_opposites(parts[0], parts[1])
    return sentence if word == "mark" else (word,) + tuple(parts)


# The base form of the sentence, or with is_so False that of its opposite. Nots are carried down to where they are
# needed, and equal parts are one tuple, so this is short work even where the form would have very many words.
def base_of(sentence, is_so):
    word = sentence[0]
    if word == "not":
        return base_of(sentence[1], not is_so)
    told = base_of_parts(sentence, [base_of(part, word not in OF_OPPOSITES) for part in parts_of(sentence)])
    return opposite_of(told) if is_so == (word in TURNED) else told


def base(sentence):
    check_sentence(sentence)
    told = base_of(shortened(sentence), True)
    if not is_sentence(told):
        raise TooGreat("too great: the base form has too many words or is too deep")
    return told


# Of two parts one may be idle, so that all hangs on the other, or ruling, so that the other has no weight.
def joined(word, one, other, idle, ruling):
    if one == ruling or other == idle or one == other:
        return one
    if other == ruling or one == idle:
        return other
    return (word, one, other)


# The answer is always the word with its parts, one of these parts, or the part of a not: so it has no more words.
def shortened(sentence):
    word = sentence[0]
    parts = [shortened(part) for part in parts_of(sentence)]
    if word == "yes" or word == "mark":
        return sentence
    if word == "not":
        return opposite_of(parts[0])
    if word == "and":
        return joined(word, parts[0], parts[1], YES, NEVER)
    if word == "or":
        return joined(word, parts[0], parts[1], NEVER, YES)
    if len(parts) == 2:
        is_settled = parts[0] == NEVER or parts[1] == YES or parts[1] == NEVER
        return parts[1] if is_settled else (word, parts[0], parts[1])
    return parts[0] if parts[0] == YES or parts[0] == NEVER else (word, parts[0])


def shorter(sentence):
    check_sentence(sentence)
    return shortened(sentence)
