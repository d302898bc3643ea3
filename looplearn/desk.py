"""A desk: rows of text that a Learner is asked and told by."""

from looplearn.errors import NoRow
from looplearn.far import number_at
from looplearn.learners import Learner
from looplearn.rounds import ahead, ring
from looplearn.signs import sign_of
from looplearn.texts import read_number, show_coder, with_blanks
from looplearn.words import is_word

MOST_LETTERS_SHOWN = 60
DONE = "ok"


def do_learn(learner, number):
    """Answer `learn N`."""
    learner.learn(number)
    return DONE


def do_back(learner):
    """Answer `back`."""
    learner.back()
    return DONE


def tell_coder(learner):
    """Answer `coder`."""
    return show_coder(learner.coder())


def tell_word(learner, number):
    """Answer `word N`."""
    place, length = learner.word(number)
    if length <= MOST_LETTERS_SHOWN:
        return learner.letters(number)
    return with_blanks((place, length))


def tell_sign(learner):
    """Answer `sign`."""
    return with_blanks(sign_of(learner.coder()))


def tell_ahead(learner):
    """Answer `ahead`."""
    return str(ahead(learner.coder()))


def tell_ring(learner):
    """Answer `ring`."""
    places = ring(learner.coder())
    return "round" if places is None else with_blanks(places)


def tell_at(learner, letter):
    """Answer `at LETTER`."""
    return str(number_at(learner.coder(), letter))


BARE_ROWS = {"back": do_back, "coder": tell_coder, "sign": tell_sign, "ahead": tell_ahead, "ring": tell_ring}
NUMBER_ROWS = {"learn": do_learn, "word": tell_word, "at": tell_at}


def answer(learner, words):
    """Answer a row of these words, which is told to a Learner."""
    name = words[0]
    if len(words) == 1 and name in BARE_ROWS:
        action = BARE_ROWS[name]
        return action(learner)
    if len(words) == 2 and name in NUMBER_ROWS and read_number(words[1]) is not None:
        action = NUMBER_ROWS[name]
        return action(learner, read_number(words[1]))
    if len(words) == 2 and name == "teach" and is_word(words[1]):
        learner.teach(words[1])
        return DONE
    raise NoRow("no row begins and goes on so")


def learner_by(words):
    """Tell the Learner of a loop, the first of these words, that knows the others."""
    if not words or not all([is_word(word) for word in words]):
        raise NoRow("a row of a loop has letters from a to z")
    return Learner(words[0], tuple(sorted(words[1:])))


class Desk:
    """One that has a Learner, at first none, and answers rows."""

    def __init__(self):
        self._learner = None

    def say(self, row):
        """Answer a row."""
        if not isinstance(row, str):
            raise NoRow("a row is a text")
        words = row.split(" ")
        if words[0] == "loop":
            self._learner = learner_by(words[1:])
            return DONE
        if self._learner is None:
            raise NoRow("there is no Learner yet")
        return answer(self._learner, words)
