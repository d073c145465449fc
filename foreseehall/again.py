"""Again: from where a player can bring the way to some rooms again and again."""

from foreseehall.bringing import check_told
from foreseehall.plans import is_plan_of, other_player, plan_of, steps_by
from foreseehall.ranking import is_lower, ranks_to


# A step to a room that is gone already is of no use to the player; from the other one's rooms none leads there.
def inner_world(world, rooms):
    return (world[0], world[1], [[there for there in row if there in rooms] for row in world[2]])


# Through the rooms that are left to the told ones among them: others are of no use, they are met once at most.
def ranks_among(world, player, rooms, left):
    goal = [room for room in left if room in rooms]
    return ranks_to(inner_world(world, left), [owner == player for owner in world[0]], left, goal)


# Rooms from which the other one can keep the way away from told ones, among those that are left.
def lost_rooms(world, player, rooms, left):
    ranks = ranks_among(world, player, rooms, left)
    return [room for room in left if ranks[room] is None]


# In each turn those rooms go from which the other one brings the way to lost ones. When no rooms are lost any more,
# the player comes from each that is left to a told one that is left, and so again and again.
def turns_and_left(world, player, rooms):
    turns = [None for owner in world[0]]
    left = list(range(len(world[0])))
    turn = 0
    lost = lost_rooms(world, player, rooms, left)
    while lost:
        ranks = ranks_to(inner_world(world, left), [owner != player for owner in world[0]], left, lost)
        for room in left:
            if ranks[room] is not None:
                turns[room] = (turn, ranks[room])
        turn += 1
        left = [room for room in left if turns[room] is None]
        lost = lost_rooms(world, player, rooms, left)
    return (turns, left)


def leads_on(ranks, here, there):
    return ranks[there] is not None if ranks[here] == 0 else is_lower(ranks[there], ranks[here])


def leads_down(turns, here, there):
    one = turns[here]
    other = turns[there]
    if one is None or other is None:
        return False
    if one[0] != other[0]:
        return other[0] < one[0]
    return other[1] < one[1] or (one[1] == 0 and other[1] == 0)


def again(world, player, rooms):
    check_told(world, player, rooms)
    both = turns_and_left(world, player, rooms)
    turns = both[0]
    ranks = ranks_among(world, player, rooms, both[1])
    onward = [[there for there in row if leads_on(ranks, room, there)] for room, row in enumerate(world[2])]
    downward = [[there for there in row if leads_down(turns, room, there)] for room, row in enumerate(world[2])]
    return (ranks, plan_of(world, player, onward), turns, plan_of(world, other_player(player), downward))


def is_rank_right(world, player, rooms, ranks, plan, room):
    if ranks[room] < 0 or (ranks[room] == 0) != (room in rooms):
        return False
    steps = steps_by(world, player, plan, room)
    return len(steps) > 0 and all([leads_on(ranks, room, there) for there in steps])


def is_turn_right(world, player, rooms, turns, counter, room):
    turn = turns[room]
    if turn[0] < 0 or turn[1] < 0 or (turn[1] == 0 and room in rooms):
        return False
    steps = steps_by(world, other_player(player), counter, room)
    return len(steps) > 0 and all([leads_down(turns, room, there) for there in steps])


# Each room has a rank or a turn, and not both: it is one player's.
def is_room_right(world, player, rooms, paper, room):
    if (paper[0][room] is None) == (paper[2][room] is None):
        return False
    if paper[2][room] is None:
        return is_rank_right(world, player, rooms, paper[0], paper[1], room)
    return is_turn_right(world, player, rooms, paper[2], paper[3], room)


def again_shows(world, player, rooms, paper):
    check_told(world, player, rooms)
    size = len(world[0])
    if len(paper[0]) != size or len(paper[2]) != size:
        return False
    if not is_plan_of(world, player, paper[1]) or not is_plan_of(world, other_player(player), paper[3]):
        return False
    return all([is_room_right(world, player, rooms, paper, room) for room in range(size)])
