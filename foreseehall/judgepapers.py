"""Papers by which anybody sees where a sentence holds: its rooms, its ranks, and the papers of its parts."""

from foreseehall.judging import ALWAYS, BY_SOME_STEP, UNTILS, ranks_of, rooms_by, through_and_goal
from foreseehall.ranking import is_led, is_lower
from foreseehall.sentences import check_sentence, parts_of
from foreseehall.worlds import check_world


def paper_of(world, sentence):
    below = [paper_of(world, part) for part in parts_of(sentence)]
    parts = [each[0] for each in below]
    ranks = ranks_of(world, sentence, parts)
    return (rooms_by(world, sentence, parts, ranks), ranks, below)


def paper(world, sentence):
    check_world(world)
    check_sentence(sentence)
    return paper_of(world, sentence)


def is_rank_right(world, word, ranks, both, room):
    rank = ranks[room]
    ahead = [ranks[there] for there in world[2][room]]
    is_by_some = word in BY_SOME_STEP
    if room in both[1]:
        return rank == 0
    if rank is None:
        return room not in both[0] or not is_led(is_by_some, [other is not None for other in ahead])
    is_lessened = is_led(is_by_some, [is_lower(other, rank) for other in ahead])
    return rank > 0 and room in both[0] and is_lessened


def are_ranks_right(world, sentence, parts, ranks):
    word = sentence[0]
    if word not in UNTILS and word not in ALWAYS:
        return ranks is None
    if ranks is None or len(ranks) != len(world[0]):
        return False
    both = through_and_goal(world, sentence, parts)
    return all([is_rank_right(world, word, ranks, both, room) for room in range(len(ranks))])


# The papers of parts come first: only of right ones is it known that their rooms are those where the parts hold.
def is_right(world, sentence, told):
    within = parts_of(sentence)
    if len(told[2]) != len(within):
        return False
    if not all([is_right(world, part, below) for part, below in zip(within, told[2])]):
        return False
    parts = [below[0] for below in told[2]]
    return are_ranks_right(world, sentence, parts, told[1]) and told[0] == rooms_by(world, sentence, parts, told[1])


def is_paper(world, sentence, told):
    check_world(world)
    check_sentence(sentence)
    return is_right(world, sentence, told)
