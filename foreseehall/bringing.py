"""Bringing: from where a player can bring the way to some rooms, whatever the other one chooses."""

from foreseehall.plans import is_plan_of, plan_of, steps_by
from foreseehall.ranking import is_led, is_lower, lower_steps, ranks_to
from foreseehall.worlds import check_player, check_rooms, check_world


def check_told(world, player, rooms):
    check_world(world)
    check_player(player)
    check_rooms(world, rooms)


def brought(world, player, rooms):
    size = len(world[0])
    ranks = ranks_to(world, [owner == player for owner in world[0]], list(range(size)), rooms)
    return (ranks, plan_of(world, player, [lower_steps(world, ranks, room) for room in range(size)]))


def bring(world, player, rooms):
    check_told(world, player, rooms)
    return brought(world, player, rooms)


def is_room_right(world, player, rooms, ranks, plan, room):
    rank = ranks[room]
    if room in rooms:
        return rank == 0
    if rank is None:
        return not is_led(world[0][room] == player, [ranks[there] is not None for there in world[2][room]])
    ahead = [ranks[there] for there in steps_by(world, player, plan, room)]
    return rank > 0 and len(ahead) > 0 and all([is_lower(other, rank) for other in ahead])


def is_brought_by(world, player, rooms, ranks, plan):
    if len(ranks) != len(world[0]) or not is_plan_of(world, player, plan):
        return False
    return all([is_room_right(world, player, rooms, ranks, plan, room) for room in range(len(ranks))])


def bring_shows(world, player, rooms, ranks, plan):
    check_told(world, player, rooms)
    return is_brought_by(world, player, rooms, ranks, plan)
