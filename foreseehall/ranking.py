"""Ranks: within how many steps one comes to some rooms, where in some rooms a step is chosen, and in others not."""


# Where a step may be chosen, some step is enough; else all steps are asked.
def is_led(is_chosen, by_steps):
    return any(by_steps) if is_chosen else all(by_steps)


# None is a room without a rank: it is lower than nothing, and nothing is lower than it.
def is_lower(rank, other):
    return rank is not None and other is not None and rank < other


def lower_steps(world, ranks, room):
    return [there for there in world[2][room] if is_lower(ranks[there], ranks[room])]


def ranked_next(world, chosen, through, ranks):
    found = []
    for room in through:
        if ranks[room] is None and is_led(chosen[room], [ranks[there] is not None for there in world[2][room]]):
            found.append(room)
    return found


# For each room chosen says whether a step may be chosen there.
# A room that gets its rank in a round is led to rooms that had theirs ahead of it, so with lesser ones.
def ranks_to(world, chosen, through, goal):
    ranks = [None for owner in world[0]]
    rank = 0
    fresh = goal
    while fresh:
        for room in fresh:
            ranks[room] = rank
        rank += 1
        fresh = ranked_next(world, chosen, through, ranks)
    return ranks


# The fewest steps, all of them chosen, through some rooms to some of these.
def steps_to(world, through, goal):
    return ranks_to(world, [True for owner in world[0]], through, goal)
