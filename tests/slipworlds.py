"""Slips for the tests: talks played with all slips, told apart from the program."""

from worlds import told_ended, told_rows, told_speaker, told_words


def slipped_rows(words, ladder, foes, couple):
    """{row: slips} for each row that the couple can come to by slips and foes' words."""
    found = {}
    waiting = [((), 0)]
    while waiting:
        row, slips = waiting.pop()
        found[row] = slips
        if told_ended(row, foes):
            continue
        side = told_speaker(row, foes)
        if side is None:
            waiting += [(row + (word,), slips) for word in told_words(row, ladder)]
        elif (row, couple[side]) in words:
            answer = words[row, couple[side]]
            waiting.append((row + (answer,), slips))
            if answer > 0:
                near = [word for word in (answer - 1, answer + 1) if word > 0 and word in told_words(row, ladder)]
                waiting += [(row + (word,), slips + 1) for word in near]
    return found


def told_slip_fault(goals, words, most):
    """What is wrong first with a plain system of the goals' sides and ladder."""
    reached = {(east, west): slipped_rows(words, goals.ladder, False, (east, west))
               for east in range(goals.sides[0]) for west in range(goals.sides[1])}
    for row in told_rows(goals.ladder, False):
        left = [couple for couple in sorted(reached) if reached[couple].get(row, most + 1) <= most]
        if not told_ended(row, False):
            side = told_speaker(row, False)
            for kind in sorted({couple[side] for couple in left}):
                if (row, kind) not in words:
                    return ("gap", row, kind)
            continue
        for east, west in left:
            if max(row) not in goals.wanted[east][west]:
                return ("end", row, (east, west))
            if goals.knows[0] and [couple[0] for couple in left].count(east) > 1:
                return ("knows", row, (east, west), 0)
            if goals.knows[1] and [couple[1] for couple in left].count(west) > 1:
                return ("knows", row, (east, west), 1)
    return None
