"""How high a sum comes in a yard, and which bounds follow from it."""

from scaleyard.keeping import keeps
from scaleyard.points import cancelling_levels, clash, point_in
from scaleyard.working import product, turned, weighted_limit

CLASH = "clash"
TOP = "top"
ENDLESS = "endless"


# Pairs of weights and a divisor from 1 on, such that the weights' row is divisor times aim: with the turned aim as a
# bound more, they are the weights that cancel all unknowns, and its own weight is the divisor.
def ceilings(yard, wide, aim):
    bounds = yard + ((turned(aim), 0),)
    weightings = cancelling_levels(bounds, wide)[wide]
    return [(weights[:-1], weights[-1]) for weights in weightings if weights[-1] > 0]


def lowest_ceiling(yard, found):
    lowest = found[0]
    for ceiling in found:
        if weighted_limit(yard, ceiling[0]) * lowest[1] < weighted_limit(yard, lowest[0]) * ceiling[1]:
            lowest = ceiling
    return lowest


def point_at_least(yard, wide, row, limit):
    return point_in(yard + ((turned(row), -limit),), wide)


# A point of the yard whose limits are all 0 leads on from each point of the yard for ever; its divisor is no matter.
def rising_way(yard, wide, aim):
    flat = tuple([(bound[0], 0) for bound in yard])
    return point_at_least(flat, wide, aim, 1)[0]


def top(yard, wide, aim):
    weights = clash(yard, wide)
    if weights is not None:
        return CLASH, weights
    found = ceilings(yard, wide, aim)
    if len(found) == 0:
        return ENDLESS, point_in(yard, wide), rising_way(yard, wide, aim)
    ceiling = lowest_ceiling(yard, found)
    height = tuple([number * ceiling[1] for number in aim])
    point = point_at_least(yard, wide, height, weighted_limit(yard, ceiling[0]))
    return TOP, point, ceiling[0], ceiling[1]


def reasons(yard, wide, bound):
    answer = top(yard, wide, bound[0])
    if answer[0] != TOP or weighted_limit(yard, answer[2]) > answer[3] * bound[1]:
        return None
    return answer[2], answer[3]


# As few whole steps on the way as lead beyond the bound.
def carried_beyond(bound, point, way):
    left = bound[1] * point[1] - product(bound[0], point[0])
    steps = max(left // (point[1] * product(bound[0], way)) + 1, 0)
    row = [number + steps * point[1] * step for number, step in zip(point[0], way)]
    return tuple(row), point[1]


def against(yard, wide, bound):
    answer = top(yard, wide, bound[0])
    if answer[0] == ENDLESS:
        return carried_beyond(bound, answer[1], answer[2])
    if answer[0] == CLASH or keeps(bound, answer[1]):
        return None
    return answer[1]


def follows(yard, wide, bound):
    return against(yard, wide, bound) is None
