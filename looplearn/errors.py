"""What the program raises where it refuses what it is handed."""


class LearnError(ValueError):
    """Any refusal of this program."""


class NoKnown(LearnError):
    """What is told as known is none."""


class NoText(LearnError):
    """What is told as a text is none."""


class NoPairs(LearnError):
    """What is told as pairs are none; `at` is the number of the first that can't be."""

    def __init__(self, at):
        super().__init__(f"pair {at} is none, or it tells no new word")
        self.at = at


class NoLoop(LearnError):
    """What is told as a loop is none."""


class NoCoder(LearnError):
    """What is told as a coder is none."""


class NoCount(LearnError):
    """What is told as a number is none, or it is out of bounds."""


class NotRound(LearnError):
    """The coder is not in its round."""


class NoTree(LearnError):
    """What is told as a tree is none."""


class NoSign(LearnError):
    """What is told as a sign is none."""


class NotLike(LearnError):
    """The two coders have not as many places."""


class NoPlace(LearnError):
    """What is told as a place is none."""


class NoCounts(LearnError):
    """What is told as counts are none."""


class NoWord(LearnError):
    """The word can't be taught."""


class Nothing(LearnError):
    """There is no deed to take back."""


class NoLog(LearnError):
    """What is told as a log is none."""


class NoRow(LearnError):
    """What is told as a row is none."""
