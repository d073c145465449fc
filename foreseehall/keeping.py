"""Keeping: from where a player can keep the way in some rooms, which the other one can't bring out of them."""

from foreseehall.bringing import brought, check_told, is_brought_by
from foreseehall.judging import other_rooms
from foreseehall.plans import is_plan_of, other_player, plan_of


def rooms_without(ranks):
    return [room for room, rank in enumerate(ranks) if rank is None]


def steps_within(world, rooms, room):
    return [there for there in world[2][room] if room in rooms and there in rooms]


def keep(world, player, rooms):
    check_told(world, player, rooms)
    both = brought(world, other_player(player), other_rooms(world, rooms))
    kept = rooms_without(both[0])
    plan = plan_of(world, player, [steps_within(world, kept, room) for room in range(len(world[0]))])
    return (kept, plan, both[0], both[1])


# From the other one's kept rooms no step leads out, by its ranks, so the player's alone are looked at.
def is_kept_by(world, player, kept, plan):
    own = [room for room in kept if world[0][room] == player]
    return is_plan_of(world, player, plan) and all([plan[room] in kept for room in own])


def keep_shows(world, player, rooms, paper):
    check_told(world, player, rooms)
    if not is_brought_by(world, other_player(player), other_rooms(world, rooms), paper[2], paper[3]):
        return False
    kept = rooms_without(paper[2])
    return paper[0] == kept and is_kept_by(world, player, kept, paper[1])
