"""Worlds: a tuple of owners, marks and steps, with an entry of each for every room."""

from foreseehall.errors import NoMark, NoPlayer, NoRoom, NoWorld

# A tuple, not a text: the empty text and "ab" are in "abcdef" too, and are no letters.
LETTERS = ("a", "b", "c", "d", "e", "f")
PLAYERS = (0, 1)
MOST_ROOMS = 24


def is_rising(entries):
    return all([entries[k - 1] < entries[k] for k in range(1, len(entries))])


def are_marks(entries):
    return all([entry in LETTERS for entry in entries]) and is_rising(entries)


def are_rooms(entries, size):
    return all([0 <= entry < size for entry in entries]) and is_rising(entries)


def are_steps(entries, size):
    return len(entries) > 0 and are_rooms(entries, size)


def is_world(owners, marks, steps):
    size = len(owners)
    if size < 1 or size > MOST_ROOMS or len(marks) != size or len(steps) != size:
        return False
    if not all([owner in PLAYERS for owner in owners]):
        return False
    return all([are_marks(row) for row in marks]) and all([are_steps(row, size) for row in steps])


def check_world(world):
    if not is_world(world[0], world[1], world[2]):
        raise NoWorld("no world: its owners, marks or steps are not as those of a world")


def check_player(player):
    if player not in PLAYERS:
        raise NoPlayer("no player: there are 0 and 1 alone")


def check_mark(mark):
    if mark not in LETTERS:
        raise NoMark("no mark: it is no letter from a to f")


def check_room(world, room):
    if not 0 <= room < len(world[0]):
        raise NoRoom("no room: the world has none of this number")


def check_rooms(world, rooms):
    if not are_rooms(rooms, len(world[0])):
        raise NoRoom("no rooms: they are not a rising list of the world's")


def before(world):
    check_world(world)
    sources = [[] for row in world[2]]
    for room, row in enumerate(world[2]):
        for there in row:
            sources[there].append(room)
    return sources


def reached(world, room):
    check_world(world)
    check_room(world, room)
    found = {room: True}
    waiting = [room]
    while waiting:
        here = waiting.pop()
        for there in world[2][here]:
            if there not in found:
                found[there] = True
                waiting.append(there)
    return sorted(found)


def marked(world, mark):
    check_world(world)
    check_mark(mark)
    return [room for room, row in enumerate(world[1]) if mark in row]
