"""Where sentences hold: from the rooms of their parts, and for untils and always by ranks."""

from foreseehall.ranking import is_led, ranks_to
from foreseehall.sentences import check_sentence, parts_of
from foreseehall.worlds import check_world

UNTILS = ("some until", "all until")
ALWAYS = ("some always", "all always")
# Where some step is enough for a next, or for a rank; of the others all steps are asked.
BY_SOME_STEP = ("some next", "some until", "all always")


def other_rooms(world, rooms):
    return [room for room in range(len(world[0])) if room not in rooms]


# Through which rooms, and to which, the ranks go: those of an always lead anyhow to where its part doesn't hold.
def through_and_goal(world, sentence, parts):
    if sentence[0] in UNTILS:
        return (parts[0], parts[1])
    return (list(range(len(world[0]))), other_rooms(world, parts[0]))


def ranks_of(world, sentence, parts):
    word = sentence[0]
    if word not in UNTILS and word not in ALWAYS:
        return None
    both = through_and_goal(world, sentence, parts)
    return ranks_to(world, [word in BY_SOME_STEP for owner in world[0]], both[0], both[1])


def holds_at(world, sentence, parts, ranks, room):
    word = sentence[0]
    if word == "yes":
        return True
    if word == "mark":
        return sentence[1] in world[1][room]
    if word in UNTILS:
        return ranks[room] is not None
    if word in ALWAYS:
        return ranks[room] is None
    here = [room in rooms for rooms in parts]
    if word == "not":
        return not here[0]
    if word == "and" or word == "or":
        return all(here) if word == "and" else any(here)
    return is_led(word in BY_SOME_STEP, [there in parts[0] for there in world[2][room]])


# Parts are told by the rooms where they hold, ranks as ranks_of tells them.
def rooms_by(world, sentence, parts, ranks):
    return [room for room in range(len(world[0])) if holds_at(world, sentence, parts, ranks, room)]


def judged(world, sentence):
    parts = [judged(world, part) for part in parts_of(sentence)]
    return rooms_by(world, sentence, parts, ranks_of(world, sentence, parts))


def holds(world, sentence):
    check_world(world)
    check_sentence(sentence)
    return judged(world, sentence)
