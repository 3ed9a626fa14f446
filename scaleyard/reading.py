"""The yards of texts."""

from scaleyard.errors import NoText
from scaleyard.things import LARGEST, is_yard
from scaleyard.working import BETWEEN, FREE
from scaleyard.writing import written


def read_number(word):
    # Longer words are beyond a yard's reach, and how many figures Python reads hangs on its settings.
    if len(word) > len(str(-LARGEST)):
        raise NoText("a word is too long for a number")
    try:
        number = int(word)
    except ValueError:
        raise NoText("a word that should be a number is none") from None
    return number


def read_bound(text):
    words = text.split(" ")
    return tuple([read_number(word) for word in words[:-2]]), read_number(words[-1])


def read(text, wide):
    if text == FREE:
        return ()
    yard = tuple([read_bound(part) for part in text.split(BETWEEN)])
    # The parts are read loosely: that the yard is written just so is what makes the text its writing.
    if not is_yard(yard, wide) or written(yard, wide) != text:
        raise NoText("the text is not the writing of a yard")
    return yard
