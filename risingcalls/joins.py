"""Systems joined of branches, and what a system is behind a row."""

from risingcalls.basics import EAST, WEST, are_sides, check_ladder, is_sequence, is_whole
from risingcalls.errors import BadBranch, BadRow
from risingcalls.heard import lots_at
from risingcalls.rows import check_row, raised_word, speaker_at, standing_at
from risingcalls.systems import System, check_plain

BRANCHES_MOST = 6


def branch_fault(ladder, earlier, branch):
    """Return the label of what is wrong in a branch behind earlier ones, None if nothing is."""
    if not is_sequence(branch) or len(branch) != 3 or not isinstance(branch[2], System) or branch[2].foes:
        return "branch"
    call, asking, system = branch
    if not is_whole(call, 1, ladder) or call in [other[0] for other in earlier]:
        return "call"
    if not is_whole(asking, call + 1, ladder):
        return "asking"
    if earlier and system.sides[WEST] != earlier[0][2].sides[WEST]:
        return "others"
    return "ladder" if system.ladder > ladder - asking else None


def check_branches(ladder, branches):
    """Return the branches as a list, or raise BadBranch for the first that is wrong."""
    if not is_sequence(branches) or not 1 <= len(branches) <= BRANCHES_MOST:
        raise BadBranch(0, "branches")
    for index, branch in enumerate(branches):
        label = branch_fault(ladder, branches[:index], branch)
        if label is not None:
            raise BadBranch(index, label)
    return list(branches)


def branch_answers(branch, ahead):
    """Return a list of the answers of a branch in the joined system, so many kinds of east being ahead."""
    call, asking, system = branch
    answers = [((), ahead + kind, call) for kind in range(system.sides[EAST])]
    answers.extend([((call,), kind, asking) for kind in range(system.sides[WEST])])
    for row, kind, word in system.answers:
        longer = (call, asking) + tuple([raised_word(heard, asking) for heard in row])
        joined_kind = ahead + kind if speaker_at(row, False) == EAST else kind
        answers.append((longer, joined_kind, raised_word(word, asking)))
    return answers


def joined_systems(ladder, branches, *, silent=False):
    """Return the plain system in which each branch has a call of its own and the kinds of east behind it."""
    check_ladder(ladder)
    answers = []
    east = 0
    joined = check_branches(ladder, branches)
    for branch in joined:
        answers.extend(branch_answers(branch, east))
        east += branch[2].sides[EAST]
    if silent:
        answers.append(((), east, 0))
        east += 1
    sides = (east, joined[0][2].sides[WEST])
    if not are_sides(sides):
        raise BadBranch(0, "kinds")
    return System(sides, ladder, answers)


def later_system(system, row):
    """Return the system of the kinds that can be behind the row, which tells what they say from there on."""
    check_plain(system)
    ahead = check_row(row, system.ladder, False)
    lots = lots_at(system, ahead)
    # at the end of a talk nobody speaks
    if speaker_at(ahead, False) != EAST or not lots[EAST] or not lots[WEST]:
        raise BadRow()
    standing = standing_at(ahead)
    answers = []
    for heard, kind, word in system.answers:
        behind = heard[len(ahead):]
        lot = lots[speaker_at(heard, False)]
        if heard[:len(ahead)] == ahead and kind in lot:
            lowered = [raised_word(other, -standing) for other in behind]
            answers.append((lowered, lot.index(kind), raised_word(word, -standing)))
    return System((len(lots[EAST]), len(lots[WEST])), system.ladder - standing, answers)
