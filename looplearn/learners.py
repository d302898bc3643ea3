"""Learners that live: what they read, are taught, and take back."""

from looplearn.coders import MOST_STEPS, behind, coder_on, one_longer
from looplearn.errors import NoCount, NoLog, Nothing, NoWord
from looplearn.far import refuse_no_place, word_at
from looplearn.kinds import refuse_no_count
from looplearn.words import is_word


def text_from(loop, place, length):
    """Tell so many letters of a loop said for ever, from a place on."""
    return (loop * (length // len(loop) + 2))[place:place + length]


def place_of(loop, thing):
    """Tell of anything at which place of a plain loop it stands as a word, or None."""
    if not is_word(thing):
        return None
    for place, letter in enumerate(loop):
        if thing[0] == letter and text_from(loop, place, len(thing)) == thing:
            return place
    return None


class Learner:
    """One that reads a plain loop for ever, and may be taught words of it."""

    def __init__(self, loop, known, *, first=0):
        _, lengths = coder_on(loop, known)
        refuse_no_place(first, len(loop))
        self._loop = loop
        self._now = first, lengths
        self._learnt = 0
        self._deeds = []
        # For each deed the coder, and how many words had been learnt, ahead of it.
        self._ahead = []

    def learn(self, n):
        """Learn so many words more by reading."""
        refuse_no_count(n, 1, MOST_STEPS)
        self._keep(("learn", n))
        self._now = behind(self._now, n)
        self._learnt += n

    def teach(self, word):
        """Know a word of the endless loop from now on, of which the beginning is known."""
        at = place_of(self._loop, word)
        here, lengths = self._now
        if at is None or len(word) != lengths[at] + 1:
            raise NoWord("a word is due that isn't known, though its beginning is, and that the loop has")
        self._keep(("teach", word))
        self._now = here, one_longer(lengths, at)

    def _keep(self, deed):
        """Keep what is to be known when a deed, which is done next, is taken back."""
        self._deeds.append(deed)
        self._ahead.append((self._now, self._learnt))

    def back(self):
        """Take the last deed back."""
        if not self._deeds:
            raise Nothing("nothing is done that could be taken back")
        self._deeds.pop()
        self._now, self._learnt = self._ahead.pop()

    def coder(self):
        """Tell where it is, and how long what it knows is."""
        return self._now

    def count(self):
        """Tell how many words it has learnt by reading."""
        return self._learnt

    def word(self, n):
        """Tell the word of this number that it has learnt, as its place and its length."""
        refuse_no_count(n, 1, self._learnt)
        # The last deed ahead of which fewer words were learnt is the reading of this one.
        coder, learnt = [row for row in self._ahead if row[1] < n][-1]
        return word_at(coder, n - learnt)

    def letters(self, n):
        """Tell the word of this number that it has learnt by its letters."""
        place, length = self.word(n)
        return text_from(self._loop, place, length)

    def knows(self, word):
        """Tell of anything whether it is a known word of those that the endless loop has."""
        at = place_of(self._loop, word)
        _, lengths = self._now
        return at is not None and len(word) <= lengths[at]

    def log(self):
        """Tell what was done to it and not taken back."""
        return list(self._deeds)

    def __len__(self):
        return len(self._deeds)

    def __eq__(self, other):
        return (
            isinstance(other, Learner) and self._loop == other._loop
            and self._now == other._now and self._learnt == other._learnt
        )


def do_again(learner, deed):
    """Do to a learner what stands in a log, and refuse what can't stand there."""
    if not isinstance(deed, tuple) or len(deed) != 2:
        raise NoLog("a deed in a log is a pair")
    name, what = deed
    try:
        if name == "learn":
            learner.learn(what)
        elif name == "teach":
            learner.teach(what)
        else:
            raise NoLog("a deed in a log is learn or teach")
    except (NoCount, NoWord):
        raise NoLog("a deed in the log can't be done") from None


def learner_of(loop, known, log, *, first=0):
    """Tell a Learner to which all that stands in a log was done."""
    learner = Learner(loop, known, first=first)
    if not isinstance(log, list):
        raise NoLog("a log is a list")
    for deed in log:
        do_again(learner, deed)
    return learner
