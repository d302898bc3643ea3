"""Any loops: what is learnt of a loop, plain or not."""

from looplearn.coders import MOST_STEPS, known_lengths
from looplearn.far import word_at
from looplearn.kinds import refuse_no_count
from looplearn.loops import root, turned


def lengths_on(loop, known):
    """Tell place by place of a loop's root how long the longest known word from there is."""
    return known_lengths(root(loop), known)


def all_grown(lengths):
    """Tell whether each length is at least one less than they are many."""
    return min(lengths) >= len(lengths) - 1


def is_grown(loop, known):
    """Tell whether a loop is grown for one that knows these words."""
    return all_grown(lengths_on(loop, known))


def learn_next(turns, coder):
    """Tell the coder of a root, of which all turns are told, behind its next word."""
    place, lengths = coder
    length = lengths[place] + 1
    # The endless loop may have the word from other places too; from unlike places of a
    # root it never goes on alike for as many letters as the root has.
    word = turns[place][:length]
    later = [length if turn[:length] == word else known for turn, known in zip(turns, lengths)]
    return (place + length) % len(lengths), tuple(later)


def words_till_grown(loop, known):
    """Tell the words that are learnt of a loop till it is grown, and the coder then."""
    coder = 0, lengths_on(loop, known)
    turns = [turned(root(loop), at) for at in range(len(coder[1]))]
    words = []
    while not all_grown(coder[1]):
        place, lengths = coder
        words.append((place, lengths[place] + 1))
        coder = learn_next(turns, coder)
    return words, coder


def grown_by(loop, known):
    """Tell how many words are learnt of a loop till it is grown."""
    words, _ = words_till_grown(loop, known)
    return len(words)


def coder_then(loop, known):
    """Tell the coder on a loop's root when it is grown."""
    _, coder = words_till_grown(loop, known)
    return coder


def word_on(loop, known, number):
    """Tell the word of this number that is learnt of the endless loop."""
    words, coder = words_till_grown(loop, known)
    refuse_no_count(number, 1, MOST_STEPS)
    if number <= len(words):
        return words[number - 1]
    # Grown, a word stands in the endless loop from one place of its root only, as on a
    # plain loop; so from here on the coder learns just what it would learn there.
    return word_at(coder, number - len(words))
