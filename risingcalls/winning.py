"""What is won in plain talks: stands, parts, partings and words."""

from risingcalls.basics import is_whole
from risingcalls.errors import BadKind
from risingcalls.masks import mask_of, masked_stand
from risingcalls.rows import next_words
from risingcalls.stands import check_stand, check_word
from risingcalls.ways import Ways, greatest_parts


def is_won(goals, stand):
    """Return whether the stand is won."""
    placed = check_stand(goals, stand)
    return Ways(goals, placed[:2]).worth(masked_stand(placed)) > 0


def won_parts(goals, stand, word):
    """Return the greatest parts for which the word is won, ascending."""
    placed = check_stand(goals, stand)
    check_word(goals, placed, word)
    return greatest_parts(Ways(goals, placed[:2]), placed, word)


def masks_by_word(goals, stand):
    """Return a list, by the words in their order, of (word, dict of the masks that are won by it)."""
    ways = Ways(goals, stand[:2])
    masked = masked_stand(stand)
    words = next_words(goals.ladder, abs(stand[2]))
    return [(word, {mask: True for mask in ways.won_masks(masked, word)}) for word in words]


def winning_partings(goals, stand):
    """Yield all won partings, ascending, as tuples of the words of the kinds of the speaker's lot."""
    placed = check_stand(goals, stand)
    lot = placed[placed[3]]
    won = masks_by_word(goals, placed)
    # lesser parts of won parts are won; so a parting is grown kind by kind and left at the first lost part
    waiting = [((), (0,) * len(won))]
    while waiting:
        words, masks = waiting.pop()
        if len(words) == len(lot):
            yield words
        else:
            longer = longer_partings(won, words, masks, lot[len(words)])
            waiting.extend(longer[::-1])


def longer_partings(won, words, masks, kind):
    """Return the beginnings (words, mask of each word) with one kind more that have no lost part, ascending."""
    longer = []
    for place, (word, let) in enumerate(won):
        mask = masks[place] | 1 << kind
        if mask in let:
            longer.append((words + (word,), masks[:place] + (mask,) + masks[place + 1:]))
    return longer


def shared_masks(won, left_out):
    """Return a dict of the masks that the words but for one can share out."""
    found = {0: True}
    for word, let in won:
        if word != left_out:
            disjoint = [rest | part for rest in found for part in let if rest & part == 0]
            found = {mask: True for mask in list(found) + disjoint}
    return found


def words_let(goals, stand, kind):
    """Return the words that the kind has in some won parting, ascending."""
    placed = check_stand(goals, stand)
    lot = placed[placed[3]]
    if not is_whole(kind) or kind not in lot:
        raise BadKind()
    won = masks_by_word(goals, placed)
    words = []
    for word, let in won:
        shared = shared_masks(won, word)
        if any([mask >> kind & 1 and mask_of(lot) ^ mask in shared for mask in let]):
            words.append(word)
    return tuple(words)
