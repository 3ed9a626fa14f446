"""Points that keep all bounds of a yard, and weights that show that there is none."""

from scaleyard.shadows import all_single_weights, cancelled, raised
from scaleyard.working import numbers_at, weighted, weighted_limit


# The weights that cancel no unknown, those that cancel the last one, the last two, and so on to all.
def cancelling_levels(bounds, wide):
    levels = [all_single_weights(len(bounds))]
    for gone in range(wide):
        levels.append(cancelled(levels[gone], numbers_at(bounds, wide - 1 - gone), gone + 2))
    return levels


# Of weights that cancel all unknowns, one whose limit is below 0.
def first_clash(bounds, weightings):
    for weights in weightings:
        if weighted_limit(bounds, weights) < 0:
            return weights
    return None


def point_in(yard, wide):
    levels = cancelling_levels(yard, wide)
    if first_clash(yard, levels[wide]) is not None:
        return None
    # The levels are the yard's shadow, that one's shadow and so on, so a point without unknowns rises through them.
    point = ((), 1)
    for known in range(1, wide + 1):
        bounds = [weighted(yard, weights, known) for weights in levels[wide - known]]
        point = raised(bounds, known, point)
    return point


def clash(yard, wide):
    return first_clash(yard, cancelling_levels(yard, wide)[wide])
