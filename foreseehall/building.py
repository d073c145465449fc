"""Worlds made of worlds. Every list of a world that is told is made anew."""

from foreseehall.errors import NoRoom, TooGreat
from foreseehall.worlds import MOST_ROOMS, check_rooms, check_world


def check_size(size):
    if size > MOST_ROOMS:
        raise TooGreat("too great: the world would have more than 24 rooms")


def moved_on(rooms, many):
    return [room + many for room in rooms]


def beside(one, other):
    check_world(one)
    check_world(other)
    size = len(one[0])
    check_size(size + len(other[0]))
    owners = one[0] + other[0]
    marks = [list(row) for row in one[1] + other[1]]
    steps = [list(row) for row in one[2]] + [moved_on(row, size) for row in other[2]]
    return (owners, marks, steps)


def pairs_of(firsts, seconds, width):
    numbers = []
    for first in firsts:
        numbers.extend(moved_on(seconds, first * width))
    return numbers


def together(one, other):
    check_world(one)
    check_world(other)
    width = len(other[0])
    check_size(len(one[0]) * width)
    owners = []
    marks = []
    steps = []
    for first, owner in enumerate(one[0]):
        for second in range(width):
            owners.append(owner)
            marks.append(sorted(set(one[1][first] + other[1][second])))
            steps.append(pairs_of(one[2][first], other[2][second], width))
    return (owners, marks, steps)


def places_of(rooms, places):
    return sorted([places[room] for room in rooms if room in places])


# Parts and orders number rooms alike: by their places. A part leaves steps to rooms without a place away.
def placed(world, rooms):
    places = {}
    for place, room in enumerate(rooms):
        places[room] = place
    owners = [world[0][room] for room in rooms]
    marks = [list(world[1][room]) for room in rooms]
    steps = [places_of(world[2][room], places) for room in rooms]
    return (owners, marks, steps)


def part(world, rooms):
    check_world(world)
    check_rooms(world, rooms)
    told = placed(world, rooms)
    if not rooms or [] in told[2]:
        raise NoRoom("no part: it has no rooms, or one of them has no step to one of them")
    return told


def renamed(world, order):
    check_world(world)
    if sorted(order) != list(range(len(world[0]))):
        raise NoRoom("no order: it does not have each room of the world once")
    return placed(world, order)


def handed_over(world):
    check_world(world)
    owners = [1 - owner for owner in world[0]]
    return (owners, [list(row) for row in world[1]], [list(row) for row in world[2]])
