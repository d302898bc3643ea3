"""Far words: what is told of a word, or of a letter, without going there word by word."""

from looplearn.coders import MOST_STEPS, behind, next_coder, refuse_no_coder, rounds_later, words_till_round
from looplearn.errors import NoPlace
from looplearn.kinds import is_within, refuse_no_count

MOST_LETTER = 10 ** 36


def refuse_no_place(place, places):
    """Refuse what is none of so many places."""
    if not is_within(place, 0, places - 1):
        raise NoPlace(f"a place is a whole number from 0 to {places - 1}")


def word_at(coder, number):
    """Tell the word of this number, as its place and its length."""
    refuse_no_coder(coder)
    refuse_no_count(number, 1, MOST_STEPS)
    place, lengths = behind(coder, number - 1)
    return place, lengths[place] + 1


def letters_known(coder):
    """Tell how many letters all words of a coder's lengths have together."""
    _, lengths = coder
    return sum([length * (length + 1) // 2 for length in lengths])


def letters_by(coder, many):
    """Tell how many letters the first so many words have."""
    return letters_known(behind(coder, many)) - letters_known(coder)


def most_rounds(coder, reached):
    """Tell behind how many whole rounds at most it isn't reached yet; 0 where it is at once."""
    size = 1
    while not reached(rounds_later(coder, size)):
        size *= 2
    rounds = 0
    while size > 0:
        if not reached(rounds_later(coder, rounds + size)):
            rounds += size
        size //= 2
    return rounds


def steps_till(coder, reached):
    """Tell behind how many steps at least a coder has reached what it then has for ever."""
    places = len(coder[1])
    many = 0
    while not reached(coder) and many < words_till_round(places):
        coder = next_coder(coder)
        many += 1
    # Unless it is reached by now the coder is in its round, and whole rounds can be left out.
    rounds = most_rounds(coder, reached)
    many += rounds * places * places
    coder = rounds_later(coder, rounds)
    while not reached(coder):
        coder = next_coder(coder)
        many += 1
    return many


def number_at(coder, letter):
    """Tell the number of the word in which a letter stands, counted from 0 on."""
    refuse_no_coder(coder)
    refuse_no_count(letter, 0, MOST_LETTER)
    due = letters_known(coder) + letter
    return steps_till(coder, lambda later: letters_known(later) > due)


def steps_till_known(coder, place, length):
    """Tell behind how many steps at least the word of a place and a length is known."""
    return steps_till(coder, lambda later: later[1][place] >= length)


def learnt_by(coder, place, length):
    """Tell the number of the word by which a word is learnt, 0 if it is known at first."""
    refuse_no_coder(coder)
    refuse_no_place(place, len(coder[1]))
    refuse_no_count(length, 1, MOST_STEPS)
    return steps_till_known(coder, place, length)


def longest_by(coder, many):
    """Tell the greatest length of any word that is known behind so many words."""
    _, lengths = behind(coder, many)
    return max(lengths)


def pair_at(coder, number):
    """Tell what the word of this number lengthens, and the place of its last letter."""
    place, length = word_at(coder, number)
    _, lengths = coder
    last = (place + length - 1) % len(lengths)
    if length == 1:
        return 0, last
    if length - 1 <= lengths[place]:
        return (place, length - 1), last
    return steps_till_known(coder, place, length - 1), last
