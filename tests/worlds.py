"""What several tests share: odd values, rows and systems told apart from the program, and strict checks."""

import itertools
import random
import unittest

NO_WHOLE = (None, True, False, "1", 1.0, (), [1], b"1")
NO_SEQUENCE = (None, True, False, 0, 1, -1, "ab", "", {}, {0: 0, 1: 1}, {0, 1}, range(2), b"ab")
NO_TRUTH = (None, 0, 1, -1, "yes", "True", (), [True])
ALL_SIDES = [(p, q) for p in range(1, 7) for q in range(1, 7) if p * q <= 12]


def shape(thing):
    """Return a value with the class of each part, so that (1,) is neither [1] nor (True,)."""
    if isinstance(thing, (list, tuple)):
        return (type(thing).__name__, tuple(shape(part) for part in thing))
    if isinstance(thing, (int, str, bool)) or thing is None:
        return (type(thing).__name__, thing)
    if not hasattr(thing, "__dict__"):
        return (type(thing).__name__, repr(thing))
    return (type(thing).__name__, tuple(sorted((name, shape(part)) for name, part in vars(thing).items()
                                               if not name.startswith("_"))))


def listed(thing):
    """Return the same with a list for each tuple, all of them new."""
    return [listed(part) for part in thing] if isinstance(thing, (list, tuple)) else thing


def spoil(thing):
    """Change a list and all lists in it."""
    for part in thing:
        if isinstance(part, list):
            spoil(part)
    thing.append("spoilt")
    thing.reverse()


class Case(unittest.TestCase):
    """A test case that looks at the classes of values and of errors, too."""

    def same(self, found, wanted):
        self.assertEqual(shape(found), shape(wanted))

    def refused(self, error, work, *args, **named):
        """Check that the call raises an error of just this class with just these attributes."""
        try:
            result = work(*args, **named)
            if hasattr(result, "__next__"):
                next(result)
        except ValueError as caught:
            self.assertIs(type(caught), type(error), (args, named))
            self.assertEqual(shape(caught), shape(error), (args, named))
            return
        self.fail(f"{type(error).__name__} is not raised: {args} {named}")

    def unequal_to_all(self, one, others):
        for other in others:
            self.assertFalse(one == other, (vars(one), other))
            self.assertTrue(one != other)


def changed_texts(rng, texts, many, signs):
    """Yield texts in which one sign or two are taken out, put in or set."""
    for _ in range(many):
        text = list(rng.choice(texts))
        for _ in range(rng.randint(1, 2)):
            at = rng.randrange(len(text))
            change = rng.choice(("take", "put", "set"))
            if change == "take":
                del text[at]
            elif change == "put":
                text.insert(at, rng.choice(signs))
            else:
                text[at] = rng.choice(signs)
        yield "".join(text)


def lots_of(kinds):
    """All lots of so many kinds, shorter ones first."""
    return [lot for size in range(1, kinds + 1) for lot in itertools.combinations(range(kinds), size)]


# Rows, as [2.1] and [2.2] tell them.


def told_ended(row, foes):
    if not foes:
        return 0 in row
    return any(row[at] == 0 and row[at + 1] == 0 for at in range(0, len(row) - 1, 2))


def told_row(row, ladder, foes):
    for at, word in enumerate(row):
        if not 0 <= word <= ladder or told_ended(row[:at], foes):
            return False
        if word > 0 and any(word <= heard for heard in row[:at]):
            return False
    return True


def told_speaker(row, foes):
    if told_ended(row, foes) or (foes and len(row) % 2 == 1):
        return None
    return len(row[::2]) % 2 if foes else len(row) % 2


def told_rows(ladder, foes):
    """All rows of a ladder, by length, then ascending."""
    found = []
    level = [()]
    while level:
        found.extend(level)
        level = [row + (word,) for row in level for word in range(ladder + 1)
                 if told_row(row + (word,), ladder, foes)]
    return found


def partner_rows(ladder, foes):
    return [row for row in told_rows(ladder, foes) if told_speaker(row, foes) is not None]


def told_words(row, ladder):
    return [word for word in range(ladder + 1) if word == 0 or word > max(row, default=0)]


def told_end(row, foes):
    standing = max(row, default=0)
    if foes and standing in row[1::2]:
        return -standing
    return standing


# Systems, as dicts {(row, kind): word}.


def random_words(rng, sides, ladder, foes, share=1.0, low=0.0):
    """Answers at a share of all rows and kinds; with `low` the words are mostly low ones."""
    words = {}
    for row in partner_rows(ladder, foes):
        for kind in range(sides[told_speaker(row, foes)]):
            if rng.random() < share:
                let = told_words(row, ladder)
                words[row, kind] = let[min(1, len(let) - 1)] if rng.random() < low else rng.choice(let)
    return words


def answers_in(words):
    return [(row, kind, word) for (row, kind), word in words.items()]


def in_order(words):
    return tuple(sorted(answers_in(words), key=lambda answer: (len(answer[0]), answer[0], answer[1])))


def told_talk(words, ladder, foes, couple, foe_words):
    """Return ("talk", row, foe's words read), ("gap", row, kind, read) or ("foe", index)."""
    row = ()
    read = 0
    while not told_ended(row, foes):
        kind = couple[told_speaker(row, foes)]
        if (row, kind) not in words:
            return ("gap", row, kind, read)
        row += (words[row, kind],)
        if foes:
            word = foe_words[read] if read < len(foe_words) else 0
            if word not in told_words(row, ladder):
                return ("foe", read)
            read += read < len(foe_words)
            row += (word,)
    return ("talk", row, read)


def told_foe_words(ladder):
    """All foes' words of [2.5], by length, then ascending."""
    found = [()]
    for size in range(1, ladder + 1):
        for words in itertools.product(range(ladder + 1), repeat=size):
            calls = [word for word in words if word]
            if words[-1] and calls == sorted(set(calls)):
                found.append(words)
    return found


def told_talks(words, ladder, foes, couple):
    """All (foe words, told talk) that read the foe words whole."""
    if not foes:
        return [((), told_talk(words, ladder, foes, couple, ()))]
    talks = [(said, told_talk(words, ladder, foes, couple, said)) for said in told_foe_words(ladder)]
    return [(said, talk) for said, talk in talks if talk[0] != "foe" and talk[-1] == len(said)]


def is_within(row, ladder, foes, leap):
    """Whether each foe's call in the row is at most leap above what stood directly before it."""
    return not foes or leap is None or all(
        row[at] <= max(row[:at]) + leap for at in range(1, len(row), 2))


def told_coming(words, sides, ladder, foes, leap=None):
    """The rows that can come, but for those at a foe's turn, from talks played one by one."""
    found = set()
    for couple in itertools.product(range(sides[0]), range(sides[1])):
        for _, talk in told_talks(words, ladder, foes, couple):
            row = talk[1]
            for at in range(len(row) + 1):
                if not (foes and at % 2 == 1) and is_within(row[:at], ladder, foes, leap):
                    found.add(row[:at])
    return sorted(found, key=lambda row: (len(row), row))


def lots_by_words(words, sides, row, foes):
    """The lots at a row, by the words of [2.10]."""
    lots = []
    for side in (0, 1):
        ahead = [at for at in range(len(row)) if told_speaker(row[:at], foes) == side]
        lots.append(tuple(kind for kind in range(sides[side])
                          if all(words.get((row[:at], kind)) == row[at] for at in ahead)))
    return tuple(lots)


def worlds(seed, ladders, sides, foes=(False, True), shares=(0.6, 0.9, 1.0)):
    """Yield (sides, ladder, foes, words): systems for each setting."""
    rng = random.Random(seed)
    for ladder in ladders:
        for pair in sides:
            for against in foes:
                for share in shares:
                    for low in (0.0, 0.6):
                        yield pair, ladder, against, random_words(rng, pair, ladder, against, share, low)
