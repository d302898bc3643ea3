"""Words: what is known, reading a text into new words, and its pairs."""

from looplearn.errors import NoKnown, NoPairs, NoText
from looplearn.kinds import is_letters, is_within

MOST_LETTERS = 2000


def is_word(thing):
    """Tell of anything whether it is a word."""
    return is_letters(thing) and len(thing) > 0


def is_known(thing):
    """Tell of anything whether it is what a learner may know."""
    if not isinstance(thing, tuple) or not all([is_word(word) for word in thing]):
        return False
    if not all([word < later for word, later in zip(thing, thing[1:])]):
        return False
    numbers = numbered(thing)
    return all([word[:-1] in numbers for word in thing])


def refuse_unknown(known):
    """Refuse what is nothing that a learner may know."""
    if not is_known(known):
        raise NoKnown("known is a rising tuple of words, each with its beginning")


def refuse_no_text(text):
    """Refuse what is no text that a learner may read."""
    if not is_letters(text) or len(text) > MOST_LETTERS:
        raise NoText(f"a text has letters from a to z, at most {MOST_LETTERS}")


def numbered(words):
    """Tell the number of each word, from 1 on; the text of no letters has 0."""
    numbers = {"": 0}
    for word in words:
        numbers[word] = len(numbers)
    return numbers


def longest_end(numbers, text, at):
    """Tell where the longest numbered word ends with which the text goes on."""
    # Each beginning of a known word is known, so the first miss ends the search.
    end = at
    while end < len(text) and text[at:end + 1] in numbers:
        end += 1
    return end


def read_text(known, text):
    """Tell the numbers of all words that are known behind a text, and its rest."""
    refuse_unknown(known)
    refuse_no_text(text)
    numbers = numbered(known)
    at = 0
    end = longest_end(numbers, text, at)
    while end < len(text):
        numbers[text[at:end + 1]] = len(numbers)
        at = end + 1
        end = longest_end(numbers, text, at)
    return numbers, text[at:]


def new_words(known, numbers):
    """Tell the words that were numbered behind those known at first, in order."""
    # The text of no letters and the words known at first were numbered ahead.
    return list(numbers)[len(known) + 1:]


def cut(known, text):
    """Tell the new words that a text is read into, and the rest that is left."""
    numbers, rest = read_text(known, text)
    return new_words(known, numbers), rest


def known_behind(known, text):
    """Tell what is known when a text has been read."""
    numbers, _ = read_text(known, text)
    return tuple(sorted([word for word in numbers if word]))


def pairs(known, text):
    """Tell for each new word of a text the known word's number and the letter more."""
    numbers, _ = read_text(known, text)
    return [(numbers[word[:-1]], word[-1]) for word in new_words(known, numbers)]


def is_pair(thing, many):
    """Tell of anything whether it is a letter behind one of so many known texts."""
    if not isinstance(thing, tuple) or len(thing) != 2:
        return False
    number, letter = thing
    if not is_within(number, 0, many - 1):
        return False
    return is_letters(letter) and len(letter) == 1


def read_pairs(known, row):
    """Tell the text, without its rest, that a list of pairs was told of."""
    refuse_unknown(known)
    if not isinstance(row, list):
        raise NoPairs(0)
    words = ["", *known]
    numbers = numbered(known)
    for at, pair in enumerate(row):
        if not is_pair(pair, len(words)):
            raise NoPairs(at)
        number, letter = pair
        word = words[number] + letter
        if word in numbers:
            raise NoPairs(at)
        numbers[word] = len(words)
        words.append(word)
    return "".join(words[len(known) + 1:])
