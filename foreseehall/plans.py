"""Plans: which step a player chooses in its rooms, and the ways when players go by them."""

from foreseehall.errors import NoPlan
from foreseehall.ways import way_along
from foreseehall.worlds import check_player, check_room, check_world


def other_player(player):
    return 1 - player


def is_plan_of(world, player, plan):
    if len(plan) != len(world[0]):
        return False
    chosen = [room for room, there in enumerate(plan) if there is not None]
    return all([world[0][room] == player and plan[room] in world[2][room] for room in chosen])


def is_plan(world, player, plan):
    check_world(world)
    check_player(player)
    return is_plan_of(world, player, plan)


def check_plan(world, player, plan):
    if not is_plan_of(world, player, plan):
        raise NoPlan("no plan: it has not an entry for each room, or a step that the player can't choose")


def follow(world, player, plan):
    check_world(world)
    check_player(player)
    check_plan(world, player, plan)
    steps = [list(row) if plan[room] is None else [plan[room]] for room, row in enumerate(world[2])]
    return (list(world[0]), [list(row) for row in world[1]], steps)


def way_by(world, plan, counter, room):
    check_world(world)
    check_room(world, room)
    check_plan(world, 0, plan)
    check_plan(world, 1, counter)
    # Each plan has None in the other one's rooms.
    choices = [second if first is None else first for first, second in zip(plan, counter)]
    way = way_along(choices, room)
    if way is None:
        raise NoPlan("no plan: a room is met for which its owner's plan has no step")
    return way


# Where a way may go on from a room if the player goes by a plan: nowhere if it has no step in a room of the player's.
def steps_by(world, player, plan, room):
    if world[0][room] != player:
        return world[2][room]
    return [] if plan[room] is None else [plan[room]]


# Of the steps that will do in each room, the first one in the player's rooms; None where none is told.
def plan_of(world, player, will_do):
    return [steps[0] if steps and world[0][room] == player else None for room, steps in enumerate(will_do)]
