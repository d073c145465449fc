"""Worlds as texts: a row for each room, with its owner, its marks and its steps."""

from foreseehall.errors import NoNote
from foreseehall.worlds import MOST_ROOMS, check_world, is_world


def row_of(owner, marks, steps):
    letters = "".join(marks)
    rooms = " ".join([str(there) for there in steps])
    return f"{owner}:{letters}:{rooms}"


def shown(world):
    check_world(world)
    return "\n".join([row_of(world[0][room], world[1][room], world[2][room]) for room in range(len(world[0]))])


# Looked up, not reckoned: so no other writing of a number, as 01 or +1, is taken for it.
def number_of(figures):
    for number in range(MOST_ROOMS):
        if figures == str(number):
            return number
    raise NoNote("no note: there is no number of a world where one is due")


def numbers_of(text):
    return [number_of(figures) for figures in text.split(" ")]


def read(text):
    rows = [row.split(":") for row in text.split("\n")]
    if not all([len(row) == 3 for row in rows]):
        raise NoNote("no note: a row has not just an owner, marks and steps")
    owners = [number_of(row[0]) for row in rows]
    marks = [list(row[1]) for row in rows]
    steps = [numbers_of(row[2]) for row in rows]
    if not is_world(owners, marks, steps):
        raise NoNote("no note: what is written is no world")
    return (owners, marks, steps)
