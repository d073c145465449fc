"""Fair ways: they stay in some rooms for ever and meet each of some marks again and again."""

from foreseehall.building import part
from foreseehall.errors import NoMark, NoWay
from foreseehall.ranking import lower_steps, steps_to
from foreseehall.worlds import are_marks, check_room, check_rooms, check_world, marked, reached


def check_fair(world, rooms, marks):
    check_world(world)
    if not are_marks(marks):
        raise NoMark("no marks: they are not a rising list of letters from a to f")
    check_rooms(world, rooms)


def steps_to_mark(world, rooms, mark):
    return steps_to(world, rooms, [room for room in rooms if mark in world[1][room]])


# Rooms that can't be on a fair way through those that are left, and the mark that they don't come to,
# or None where they have no step to stay by.
def row_off(world, left, marks):
    ended = [room for room in left if not any([there in left for there in world[2][room]])]
    if ended:
        return (ended, None)
    for mark in marks:
        ranks = steps_to_mark(world, left, mark)
        lost = [room for room in left if ranks[room] is None]
        if lost:
            return (lost, mark)
    return None


# The rows that are taken off, and the rooms that are left: each of these goes on to one of them, and comes
# through them to each mark, so it can do so again and again.
def rows_and_kept(world, rooms, marks):
    rows = []
    left = list(rooms)
    row = row_off(world, left, marks)
    while row is not None:
        rows.append(row)
        left = [room for room in left if room not in row[0]]
        row = row_off(world, left, marks)
    return (rows, left)


def fair_rooms(world, rooms, marks):
    check_fair(world, rooms, marks)
    return rows_and_kept(world, rooms, marks)[1]


def path_to(world, room, goal):
    ranks = steps_to(world, list(range(len(world[0]))), goal)
    path = [room]
    while ranks[path[-1]] > 0:
        path.append(lower_steps(world, ranks, path[-1])[0])
    return path


# From the fewest rooms that are reached from one of them, one comes back: there a ring is never far.
def closed_rooms(world, room):
    return min([reached(world, there) for there in reached(world, room)], key=len)


def ring_by_marks(world, marks, room):
    ring = [room]
    for mark in marks:
        ring.extend(path_to(world, ring[-1], marked(world, mark))[1:])
    return ring + path_to(world, world[2][ring[-1]][0], [room])[:-1]


def fair_way(world, rooms, marks, room):
    check_fair(world, rooms, marks)
    check_room(world, room)
    kept = rows_and_kept(world, rooms, marks)[1]
    if room not in kept:
        raise NoWay("no way: none from this room is fair")
    # In the part of the kept rooms every way stays, and all marks are met.
    inner = part(world, kept)
    start = kept.index(room)
    path = path_to(inner, start, closed_rooms(inner, start))
    ring = ring_by_marks(inner, marks, path[-1])
    return ([kept[number] for number in path[:-1]], [kept[number] for number in ring])
