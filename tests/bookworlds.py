"""Rules and books for the tests, and what they say, told apart from the program."""

from risingcalls.books import Book
from risingcalls.marks import Marks
from risingcalls.rules import Rule
from worlds import ALL_SIDES, told_rows, told_speaker

NAMES = ("hue", "size", "x", "odd")


def some_marks(rng, kinds, most=2):
    names = rng.sample(NAMES, rng.randint(1, 3))
    return Marks(names, [[rng.randint(0, most) for _ in names] for _ in range(kinds)])


def some_rule(rng, ladder, foes, few=0.5):
    """A rule; each condition is told with the chance `few`."""
    def told(things):
        return rng.choice(things) if rng.random() < few else None

    words = ["none", *range(ladder + 1)]
    low = rng.randint(0, ladder) if rng.random() < few / 2 else 0
    high = rng.randint(low, ladder) if rng.random() < few / 2 else None
    tests = []
    while rng.random() < few and len(tests) < 2:
        least = rng.randint(0, 2)
        tests.append((rng.choice(NAMES), least, rng.randint(least, 2)))
    return Rule(rng.randint(0, ladder), tests, told(words), told(words), told(words) if foes else None, low, high,
                told((0, 1)))


def some_book(rng, ladder, foes, sides=None, most=8, few=0.5):
    sides = sides or rng.choice([pair for pair in ALL_SIDES if max(pair) <= 3])
    rules = [some_rule(rng, ladder, foes, few) for _ in range(rng.randint(1, most))]
    if rng.random() < 0.8:
        # a rule that fits everywhere, so that the walk goes far
        rules.append(Rule(0))
    return Book(some_marks(rng, sides[0]), some_marks(rng, sides[1]), rules)


def told_situation(row, foes):
    speaker = told_speaker(row, foes)
    partners = row[::2] if foes else row
    own = [word for at, word in enumerate(partners) if at % 2 == speaker]
    other = [word for at, word in enumerate(partners) if at % 2 != speaker]
    return (speaker, own[-1] if own else "none", other[-1] if other else "none",
            row[-1] if foes and row else "none", max(row, default=0))


def told_fits(rule, marks, kind, row, foes):
    """Whether a rule fits, condition by condition as [3.3] tells."""
    speaker, own, other, foe, standing = told_situation(row, foes)
    if rule.side is not None and rule.side != speaker:
        return False
    if rule.own is not None and rule.own != own:
        return False
    if rule.other is not None and rule.other != other:
        return False
    if rule.foe is not None and rule.foe != foe:
        return False
    if rule.low > standing or (rule.high is not None and rule.high < standing):
        return False
    for name, least, most in rule.tests:
        if name not in marks.names:
            return False
        number = marks.lines[kind][marks.names.index(name)]
        if number < least or number > most:
            return False
    return True


def told_rule(book, kind, row, foes):
    marks = (book.east_marks, book.west_marks)[told_speaker(row, foes)]
    for number, rule in enumerate(book.rules):
        if told_fits(rule, marks, kind, row, foes):
            return number
    return None


def told_lots(book, row, foes):
    """The kinds of both sides that would speak along the row, each kind judged alone."""
    lots = []
    for side in (0, 1):
        lot = []
        for kind in range(book.sides[side]):
            numbers = [(at, told_rule(book, kind, row[:at], foes)) for at in range(len(row))
                       if told_speaker(row[:at], foes) == side]
            if all(number is not None and book.rules[number].word == row[at] for at, number in numbers):
                lot.append(kind)
        lots.append(tuple(lot))
    return lots


def told_walk(book, ladder, foes):
    """The walk of a book: all rows of the ladder that both sides' kinds lead along, row by row."""
    found = []
    for row in told_rows(ladder, foes):
        speaker = told_speaker(row, foes)
        if speaker is not None:
            lots = told_lots(book, row, foes)
            if lots[0] and lots[1]:
                found.extend((row, kind, told_rule(book, kind, row, foes)) for kind in lots[speaker])
    return found


def spoken(book, walk):
    """The rows, kinds and answers of a walk."""
    return [(row, kind, None if number is None else book.rules[number].word) for row, kind, number in walk]


def raised_row(row, by):
    return tuple(word + by if word else 0 for word in row)

