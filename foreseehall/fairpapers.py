"""Papers by which anybody sees which rooms are fair: rows that are taken off, the rooms kept, and their ranks."""

from foreseehall.fair import check_fair, rows_and_kept, steps_to_mark
from foreseehall.ranking import lower_steps
from foreseehall.ways import check_way
from foreseehall.worlds import is_rising


def fair_paper(world, rooms, marks):
    check_fair(world, rooms, marks)
    both = rows_and_kept(world, rooms, marks)
    return (both[0], both[1], [steps_to_mark(world, both[1], mark) for mark in marks])


def left_ahead(world, left, rooms):
    found = []
    for room in rooms:
        found.extend([there for there in world[2][room] if there in left])
    return found


def is_row_right(world, left, marks, row):
    rooms = row[0]
    if not rooms or not is_rising(rooms) or not all([room in left for room in rooms]):
        return False
    ahead = left_ahead(world, left, rooms)
    if row[1] is None:
        return not ahead
    is_bare = not any([row[1] in world[1][room] for room in rooms])
    return row[1] in marks and is_bare and all([there in rooms for there in ahead])


# The rooms that are left in the end, or None where a row is wrong.
def left_by(world, rooms, marks, rows):
    left = list(rooms)
    for row in rows:
        if not is_row_right(world, left, marks, row):
            return None
        left = [room for room in left if room not in row[0]]
    return left


def is_rank_right(world, kept, mark, ranks, room):
    rank = ranks[room]
    if room not in kept or rank is None:
        return room not in kept and rank is None
    if mark in world[1][room]:
        return rank == 0
    # Kept rooms alone have ranks, so the one with a lower rank is a kept one.
    return rank > 0 and len(lower_steps(world, ranks, room)) > 0


def are_ranks_right(world, kept, mark, ranks):
    if len(ranks) != len(world[0]):
        return False
    return all([is_rank_right(world, kept, mark, ranks, room) for room in range(len(ranks))])


def is_fair_paper(world, rooms, marks, paper):
    check_fair(world, rooms, marks)
    kept = left_by(world, rooms, marks, paper[0])
    if kept is None or paper[1] != kept or len(paper[2]) != len(marks):
        return False
    if not all([left_ahead(world, kept, [room]) for room in kept]):
        return False
    return all([are_ranks_right(world, kept, mark, ranks) for mark, ranks in zip(marks, paper[2])])


def way_is_fair(world, rooms, marks, way):
    check_fair(world, rooms, marks)
    check_way(world, way)
    if not all([room in rooms for room in way[0] + way[1]]):
        return False
    return all([any([mark in world[1][room] for room in way[1]]) for mark in marks])
