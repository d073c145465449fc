"""Which rooms are unlike: rows that show it, and sentences that tell them apart."""

from foreseehall.errors import TooGreat
from foreseehall.forms import opposite_of
from foreseehall.worlds import LETTERS, check_room, check_world

MOST_ROOMS_APART = 6


# The pairs of rooms that must be unlike, so that a step makes two rooms unlike.
def pairs_asked(world, one, other, side, there):
    if side == 0:
        return [(there, against) for against in world[2][other]]
    return [(against, there) for against in world[2][one]]


def is_by_mark(world, one, other, letter):
    return (letter in world[1][one]) != (letter in world[1][other])


def is_by_step(world, one, other, side, there, known):
    return all([pair in known for pair in pairs_asked(world, one, other, side, there)])


def reason_for(world, one, other, known):
    for letter in LETTERS:
        if is_by_mark(world, one, other, letter):
            return ("mark", letter)
    for side, room in enumerate([one, other]):
        for there in world[2][room]:
            if is_by_step(world, one, other, side, there, known):
                return ("step", side, there)
    return None


def rows_next(world, known):
    rows = []
    for one in range(len(world[0])):
        for other in range(len(world[0])):
            reason = None if (one, other) in known else reason_for(world, one, other, known)
            if reason is not None:
                rows.append((one, other, reason))
    return rows


# A row for each two rooms that are unlike, by these rooms. They come in rounds, and a round hangs on earlier ones
# alone: so no row hangs on a longer chain of steps than it must.
def all_rows(world):
    known = {}
    fresh = rows_next(world, known)
    while fresh:
        for row in fresh:
            known[(row[0], row[1])] = row
        fresh = rows_next(world, known)
    return known


def pairs_behind(world, row):
    return [] if row[2][0] == "mark" else pairs_asked(world, row[0], row[1], row[2][1], row[2][2])


# All that a row hangs on is of earlier rounds, so the row of these two rooms is the last one.
def rows_for(world, one, other):
    rows = all_rows(world)
    if (one, other) not in rows:
        return None
    needed = {(one, other): True}
    waiting = [(one, other)]
    while waiting:
        pair = waiting.pop()
        for behind in pairs_behind(world, rows[pair]):
            if behind not in needed:
                needed[behind] = True
                waiting.append(behind)
    return [rows[pair] for pair in rows if pair in needed]


def check_pair(world, one, other):
    check_room(world, one)
    check_room(world, other)


def unlike(world, one, other):
    check_world(world)
    check_pair(world, one, other)
    return rows_for(world, one, other)


def is_row_right(world, row, known):
    reason = row[2]
    if reason[0] == "mark":
        return is_by_mark(world, row[0], row[1], reason[1])
    if reason[1] not in (0, 1) or reason[2] not in world[2][row[reason[1]]]:
        return False
    return is_by_step(world, row[0], row[1], reason[1], reason[2], known)


def are_unlike_by(world, rows):
    check_world(world)
    for row in rows:
        check_pair(world, row[0], row[1])
    known = {}
    for row in rows:
        if not is_row_right(world, row, known):
            return False
        known[(row[0], row[1])] = True
    return True


# As flat as can be.
def all_of(sentences):
    half = len(sentences) // 2
    return sentences[0] if half == 0 else ("and", all_of(sentences[:half]), all_of(sentences[half:]))


def each_once(entries):
    found = []
    for entry in entries:
        if entry not in found:
            found.append(entry)
    return found


# Earlier rows have their sentences: these hold at the first room of their row, and not at the second one.
def sentence_of(world, row, told):
    reason = row[2]
    if reason[0] == "mark":
        mark = ("mark", reason[1])
        return mark if reason[1] in world[1][row[0]] else ("not", mark)
    behind = [told[pair] for pair in pairs_behind(world, row)]
    if reason[1] == 0:
        return ("some next", all_of(each_once(behind)))
    return ("not", ("some next", all_of(each_once([opposite_of(each) for each in behind]))))


def apart(world, one, other):
    check_world(world)
    check_pair(world, one, other)
    if len(world[0]) > MOST_ROOMS_APART:
        raise TooGreat("too great: the world has more than 6 rooms")
    rows = rows_for(world, one, other)
    if rows is None:
        return None
    told = {}
    for row in rows:
        told[(row[0], row[1])] = sentence_of(world, row, told)
    return told[(one, other)]
