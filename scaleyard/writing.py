"""The texts of yards."""

from scaleyard.errors import NoYard
from scaleyard.things import is_yard
from scaleyard.working import BELOW, BETWEEN, FREE


def written_bound(bound):
    words = [str(number) for number in bound[0]]
    words.append(BELOW)
    words.append(str(bound[1]))
    return " ".join(words)


def written(yard, wide):
    if not is_yard(yard, wide):
        raise NoYard("what is no yard is not written")
    if len(yard) == 0:
        return FREE
    return BETWEEN.join([written_bound(bound) for bound in yard])
