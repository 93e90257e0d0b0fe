"""Watchers: which of several systems is spoken, by talks that were seen or couples that are asked."""

from risingcalls.basics import check_couple, check_kind, couples_of, is_sequence, is_whole
from risingcalls.errors import BadCouple, BadPool, BadRow, BadTalk
from risingcalls.heard import lots_at
from risingcalls.rows import check_row, is_row, speaker_at
from risingcalls.systems import System, unlike_in, word_said
from risingcalls.talks import play_talk

SYSTEMS_MOST = 6


class Pool:
    """Systems of equal sides, ladder and foes, one of which is spoken."""

    def __init__(self, systems):
        if not is_sequence(systems) or not is_whole(len(systems), 1, SYSTEMS_MOST):
            raise BadPool(None)
        for index, system in enumerate(systems):
            if not isinstance(system, System) or unlike_in(systems[0], system, systems[0].foes) is not None:
                raise BadPool(index)
        self.systems = tuple(systems)

    def __eq__(self, other):
        return isinstance(other, Pool) and self.systems == other.systems

    def __len__(self):
        return len(self.systems)


class Told:
    """Nothing more can be told: the numbers of the systems still left."""

    def __init__(self, numbers):
        self.numbers = numbers

    def __eq__(self, other):
        return isinstance(other, Told) and self.numbers == other.numbers


class Plan:
    """Ask the couple; onward has the plan behind each reply."""

    def __init__(self, couple, onward):
        self.couple = couple
        self.onward = onward

    def __eq__(self, other):
        return isinstance(other, Plan) and self.couple == other.couple and self.onward == other.onward


def is_couple(thing, sides):
    """Return whether a value is a couple."""
    try:
        check_couple(sides, thing)
    except BadCouple:
        return False
    return True


def is_talk_seen(thing, system):
    """Return whether a value is a pair (couple, row) that may be seen of such a system."""
    if not is_sequence(thing) or len(thing) != 2:
        return False
    return is_couple(thing[0], system.sides) and is_row(thing[1], system.ladder, system.foes)


def check_talks(pool, talks):
    """Return the talks seen, or raise BadTalk."""
    if not is_sequence(talks):
        raise BadTalk(None)
    for index, talk in enumerate(talks):
        if not is_talk_seen(talk, pool.systems[0]):
            raise BadTalk(index)
    return talks


def fits_talk(system, couple, row):
    """Return whether the couple's kinds are in the system's lots at the row."""
    return all([kind in lot for kind, lot in zip(couple, lots_at(system, row))])


def fitting(pool, talks):
    """Return the numbers of the systems that fit all talks seen, ascending."""
    check_talks(pool, talks)
    fit = [all([fits_talk(system, couple, row) for couple, row in talks]) for system in pool.systems]
    return tuple([number for number, fits_all in enumerate(fit) if fits_all])


def sure_word(pool, talks, row, kind):
    """Return the word that all fitting systems answer, None if there is none."""
    numbers = fitting(pool, talks)
    first = pool.systems[0]
    words = check_row(row, first.ladder, first.foes)
    speaker = speaker_at(words, first.foes)
    if speaker is None:
        raise BadRow()
    check_kind(kind, first.sides[speaker])
    answers = [word_said(pool.systems[number], words, kind) for number in numbers]
    # no answer counts as an answer of its own here: it is None if all have it
    return answers[0] if answers and answers == [answers[0]] * len(answers) else None


def replies_of(pool, numbers, couple):
    """Return a list of (reply, numbers that give it), in the order of the least numbers."""
    replies = []
    for number in numbers:
        reply = play_talk(pool.systems[number], couple)
        known = [place for place, pair in enumerate(replies) if pair[0] == reply]
        if known:
            replies[known[0]] = (reply, replies[known[0]][1] + (number,))
        else:
            replies.append((reply, (number,)))
    return replies


def couples_parting(pool, numbers):
    """Return a list of the couples to which these systems give unlike replies, ascending."""
    couples = couples_of(pool.systems[0].sides)
    return [couple for couple in couples if len(replies_of(pool, numbers, couple)) > 1]


def next_couple(pool, talks):
    """Return the first couple for which the fitting systems have the most unlike replies, None if none parts them."""
    numbers = fitting(pool, talks)
    couples = couples_parting(pool, numbers)
    if not couples:
        return None
    return max(couples, key=lambda couple: len(replies_of(pool, numbers, couple)))


def all_numbers(pool):
    """Return the numbers of all systems of the pool."""
    return tuple(range(len(pool)))


def least_plan(pool, numbers, known):
    """Return (depth, plan) of a plan of the least depth that tells these systems apart; known keeps them."""
    if numbers not in known:
        best = (0, Told(numbers))
        for couple in couples_parting(pool, numbers):
            replies = replies_of(pool, numbers, couple)
            behind = [least_plan(pool, left, known) for _, left in replies]
            depth = 1 + max([pair[0] for pair in behind])
            if best[0] == 0 or depth < best[0]:
                onward = [(reply, pair[1]) for (reply, _), pair in zip(replies, behind)]
                best = (depth, Plan(couple, tuple(onward)))
        known[numbers] = best
    return known[numbers]


def ask_plan(pool):
    """Return a plan whose depth is the least."""
    return least_plan(pool, all_numbers(pool), {})[1]


def least_questions(pool):
    """Return the least depth of all plans."""
    return least_plan(pool, all_numbers(pool), {})[0]


def plan_depth(plan):
    """Return how many couples the plan asks at most."""
    depth = 0
    plans = [plan]
    while any([isinstance(one, Plan) for one in plans]):
        depth += 1
        plans = [pair[1] for one in plans if isinstance(one, Plan) for pair in one.onward]
    return depth


def has_replies(onward, replies):
    """Return whether a value has a pair for just these replies, in their order."""
    if not is_sequence(onward) or len(onward) != len(replies):
        return False
    if not all([is_sequence(pair) and len(pair) == 2 for pair in onward]):
        return False
    return all([pair[0] == reply for pair, (reply, _) in zip(onward, replies)])


def is_told(pool, told, numbers):
    """Return whether the told numbers are just those of the systems left, and no couple can part these."""
    if told != numbers or not all([is_whole(number) for number in told]):
        return False
    return not couples_parting(pool, numbers)


def node_fault(pool, plan, numbers):
    """Return the label of what is wrong at the first node of a plan for the systems left, None if nothing is."""
    if isinstance(plan, Told):
        return None if is_told(pool, plan.numbers, numbers) else "told"
    if not isinstance(plan, Plan):
        return "plan"
    if not is_couple(plan.couple, pool.systems[0].sides):
        return "couple"
    return None if has_replies(plan.onward, replies_of(pool, numbers, plan.couple)) else "onward"


def plan_fault(pool, plan):
    """Return the label of the first fault of a plan, None if there is none."""
    # kept by hand in the place of recursion, since plans may be deep
    waiting = [(plan, all_numbers(pool))]
    while waiting:
        node, numbers = waiting.pop()
        fault = node_fault(pool, node, numbers)
        if fault is not None:
            return fault
        if isinstance(node, Plan):
            replies = replies_of(pool, numbers, node.couple)
            behind = [(pair[1], left) for pair, (_, left) in zip(node.onward, replies)]
            waiting.extend(behind[::-1])
    return None


def told_by(plan, system):
    """Return the numbers to which the system's replies lead in the plan, None at a reply that it does not have."""
    while isinstance(plan, Plan):
        reply = play_talk(system, plan.couple)
        behind = [pair[1] for pair in plan.onward if pair[0] == reply]
        if not behind:
            return None
        plan = behind[0]
    return plan.numbers
