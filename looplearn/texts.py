"""Texts: a coder as a text, and read back."""

from looplearn.coders import is_coder, refuse_no_coder
from looplearn.errors import NoText

MOST_FIGURES = 40


def with_blanks(numbers):
    """Tell numbers by their figures, one blank between."""
    return " ".join([str(number) for number in numbers])


def read_number(text):
    """Tell the number that a text has the figures of, without noughts ahead, or None."""
    if not 1 <= len(text) <= MOST_FIGURES or not all(["0" <= sign <= "9" for sign in text]):
        return None
    if text[0] == "0" and text != "0":
        return None
    return int(text)


def show_coder(coder):
    """Tell a coder's text."""
    refuse_no_coder(coder)
    place, lengths = coder
    return f"at {place} knows {with_blanks(lengths)}"


def read_coder(text):
    """Tell the coder of which this is the text."""
    if not isinstance(text, str):
        raise NoText("a text is due")
    words = text.split(" ")
    if len(words) < 3 or words[0] != "at" or words[2] != "knows":
        raise NoText("a coder's text is: at PLACE knows LENGTH LENGTH ..")
    # Where figures are wrong there is None instead of a number, and so no coder.
    coder = read_number(words[1]), tuple([read_number(word) for word in words[3:]])
    if not is_coder(coder):
        raise NoText("the text has not the numbers of a coder")
    return coder
