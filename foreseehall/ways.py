"""Ways: through a front and then round a ring for ever, and what they show of sentences."""

from foreseehall.errors import NoRoom, NoSentence, NoWay
from foreseehall.judging import ALWAYS, BY_SOME_STEP, UNTILS, judged, ranks_of, rooms_by
from foreseehall.ranking import lower_steps
from foreseehall.sentences import check_sentence, parts_of
from foreseehall.worlds import check_room, check_world

# A way shows that a sentence of the first three holds, and that one of the other three does not.
OF_SOME = ("some next", "some until", "some always")
OF_ALL = ("all next", "all until", "all always")


def goes_on(world, way):
    rooms = way[0] + way[1] + way[1][:1]
    if not way[1] or not all([0 <= room < len(world[0]) for room in rooms]):
        return False
    return all([rooms[k] in world[2][rooms[k - 1]] for k in range(1, len(rooms))])


def is_way(world, way):
    check_world(world)
    return goes_on(world, way)


def check_way(world, way):
    if not goes_on(world, way):
        raise NoWay("no way: it has no ring, or no step leads to one of its rooms")


def room_of(way, place):
    many = len(way[0])
    return way[0][place] if place < many else way[1][(place - many) % len(way[1])]


def room_at(world, way, place):
    check_world(world)
    if place < 0:
        raise NoRoom("no room: a way has no place below 0")
    check_way(world, way)
    return room_of(way, place)


def is_round(ring, many):
    return len(ring) % many == 0 and ring[many:] == ring[:-many]


def once_round(ring):
    return ring[:[many for many in range(1, len(ring) + 1) if is_round(ring, many)][0]]


# A front that ends as the ring does is already in the ring there, which then begins a room earlier.
def short(world, way):
    check_world(world)
    check_way(world, way)
    front = list(way[0])
    ring = once_round(way[1])
    while front and front[-1] == ring[-1]:
        ring = [front.pop()] + ring[:-1]
    return (front, ring)


def check_kind(sentence):
    check_sentence(sentence)
    if sentence[0] not in OF_SOME and sentence[0] not in OF_ALL:
        raise NoSentence("no sentence: a way shows only nexts, untils and always")


def is_until(rooms, first, second):
    for room in rooms:
        if room in second:
            return True
        if room not in first:
            return False
    return False


# What comes behind the ring's last room was met already, so each room is looked at once.
def is_so_along(way, word, parts):
    rooms = way[0] + way[1]
    if word in UNTILS:
        return is_until(rooms, parts[0], parts[1])
    if word in ALWAYS:
        return all([room in parts[0] for room in rooms])
    return room_of(way, 1) in parts[0]


def way_shows(world, sentence, way):
    check_world(world)
    check_kind(sentence)
    check_way(world, way)
    parts = [judged(world, part) for part in parts_of(sentence)]
    return is_so_along(way, sentence[0], parts) == (sentence[0] in OF_SOME)


# The one way that goes on from each room to the one that is chosen for it: it is known as soon as it comes to one of
# its rooms again. None where it comes to a room for which none is chosen.
def way_along(choices, room):
    met = []
    here = room
    while here is not None and here not in met:
        met.append(here)
        here = choices[here]
    if here is None:
        return None
    place = met.index(here)
    return (met[:place], met[place:])


# Steps by which a way goes on to show a sentence: to where a next is decided, down to rank 0, or past all ranks.
def showing_steps(world, word, parts, ranks, room):
    steps = world[2][room]
    if ranks is None:
        return [there for there in steps if (there in parts[0]) == (word == "some next")]
    if word in BY_SOME_STEP:
        return lower_steps(world, ranks, room)
    return [there for there in steps if ranks[there] is None]


def way_for(world, sentence, room):
    check_world(world)
    check_kind(sentence)
    check_room(world, room)
    word = sentence[0]
    parts = [judged(world, part) for part in parts_of(sentence)]
    ranks = ranks_of(world, sentence, parts)
    if (room in rooms_by(world, sentence, parts, ranks)) != (word in OF_SOME):
        raise NoWay("no way: none from this room shows the sentence")
    # Where no step is asked for, all is shown already, and any step will do.
    choices = [(showing_steps(world, word, parts, ranks, here) + world[2][here])[0] for here in range(len(world[0]))]
    return way_along(choices, room)
