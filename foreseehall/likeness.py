"""Which rooms are alike: with the same marks, and with steps that lead to rooms that are alike again."""

from foreseehall.worlds import check_room, check_world


# Like keys get like numbers, in the order in which they come: so classes go by their least rooms.
def numbered(keys):
    numbers = {}
    for key in keys:
        if key not in numbers:
            numbers[key] = len(numbers)
    return [numbers[key] for key in keys]


def look_of(world, room, owned):
    marks = tuple(world[1][room])
    return (marks, world[0][room]) if owned else (marks,)


def classes_ahead(numbers, steps):
    return sorted(set([numbers[there] for there in steps]))


def parted_by_steps(world, numbers):
    return numbered([(numbers[room], tuple(classes_ahead(numbers, steps))) for room, steps in enumerate(world[2])])


# Rooms that look alike are parted by their steps for as long as this makes classes more.
def class_numbers(world, owned):
    numbers = numbered([look_of(world, room, owned) for room in range(len(world[0]))])
    parted = parted_by_steps(world, numbers)
    while parted != numbers:
        numbers = parted
        parted = parted_by_steps(world, numbers)
    return numbers


def grouped(numbers):
    groups = [[] for number in range(max(numbers) + 1)]
    for room, number in enumerate(numbers):
        groups[number].append(room)
    return groups


def classes(world, owned):
    check_world(world)
    return grouped(class_numbers(world, owned))


# Rooms that are alike step to the same classes, so the least one speaks for all of its class.
def least_world(world, owned):
    check_world(world)
    numbers = class_numbers(world, owned)
    least = [rooms[0] for rooms in grouped(numbers)]
    owners = [world[0][room] for room in least]
    marks = [list(world[1][room]) for room in least]
    steps = [classes_ahead(numbers, world[2][room]) for room in least]
    return ((owners, marks, steps), numbers)


# A room goes with itself where it can: such pairs ask for no others but of their kind, so the list stays short.
def partner(numbers, room, rooms):
    if room in rooms:
        return room
    return [other for other in rooms if numbers[other] == numbers[room]][0]


def pairs_behind(world, numbers, pair):
    firsts = world[2][pair[0]]
    seconds = world[2][pair[1]]
    onward = [(first, partner(numbers, first, seconds)) for first in firsts]
    return onward + [(partner(numbers, second, firsts), second) for second in seconds]


def alike(world, one, other, owned):
    check_world(world)
    check_room(world, one)
    check_room(world, other)
    numbers = class_numbers(world, owned)
    if numbers[one] != numbers[other]:
        return None
    pairs = {(one, other): True}
    waiting = [(one, other)]
    while waiting:
        pair = waiting.pop()
        for needed in pairs_behind(world, numbers, pair):
            if needed not in pairs:
                pairs[needed] = True
                waiting.append(needed)
    return list(pairs)


def is_pair_right(world, pair, known, owned):
    if look_of(world, pair[0], owned) != look_of(world, pair[1], owned):
        return False
    firsts = world[2][pair[0]]
    seconds = world[2][pair[1]]
    is_met = all([any([(first, second) in known for second in seconds]) for first in firsts])
    return is_met and all([any([(first, second) in known for first in firsts]) for second in seconds])


def are_alike_by(world, pairs, owned):
    check_world(world)
    known = {}
    for pair in pairs:
        check_room(world, pair[0])
        check_room(world, pair[1])
        known[pair] = True
    return all([is_pair_right(world, pair, known, owned) for pair in pairs])
