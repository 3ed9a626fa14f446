"""Shadows: what a yard asks of all unknowns but the last, and points raised from there."""

from scaleyard.keeping import kept
from scaleyard.working import numbers_at, product, shortened, weighted


def single_weights(many, chosen):
    return tuple([1 if place == chosen else 0 for place in range(many)])


# The weights that cancel nothing yet: each bound by itself.
def all_single_weights(many):
    return [single_weights(many, chosen) for chosen in range(many)]


def used_by_either(one, other):
    return len([1 for mine, yours in zip(one, other) if mine > 0 or yours > 0])


def cancelling_sum(rising, falling, column):
    rise = product(rising, column)
    fall = -product(falling, column)
    return shortened([fall * mine + rise * yours for mine, yours in zip(rising, falling)])


# All weights that make 0 of the column are sums of those found, if the weightings are such for the columns before.
# Where more than most are above 0, weights are left out: with most one more than there are columns by then, they are
# sums of weights with fewer above 0, so the bound that they make asks nothing that the others don't ask.
def cancelled(weightings, column, most):
    found = [weights for weights in weightings if product(weights, column) == 0]
    above = [weights for weights in weightings if product(weights, column) > 0]
    below = [weights for weights in weightings if product(weights, column) < 0]
    for rising in above:
        for falling in below:
            if used_by_either(rising, falling) <= most:
                joined = cancelling_sum(rising, falling, column)
                if joined not in found:
                    found.append(joined)
    return found


def shadow(yard, wide):
    weightings = cancelled(all_single_weights(len(yard)), numbers_at(yard, wide - 1), 2)
    return tuple([weighted(yard, weights, wide - 1) for weights in weightings])


# The last unknown is set so that the bound is kept just barely; its number in the bound must not be 0.
def raised_to_edge(bound, wide, point):
    last = bound[0][wide - 1]
    left = bound[1] * point[1] - product(bound[0][:wide - 1], point[0])
    row = [number * abs(last) for number in point[0]]
    row.append(left if last > 0 else -left)
    row.append(point[1] * abs(last))
    numbers = shortened(row)
    return numbers[:-1], numbers[-1]


def raised(yard, wide, point):
    tried = [(point[0] + (0,), point[1])]
    tried.extend([raised_to_edge(bound, wide, point) for bound in yard if bound[0][wide - 1] != 0])
    # The numbers that do make a stretch: it holds one of its ends, or it has none and holds 0.
    for candidate in tried:
        if kept(yard, candidate):
            return candidate
    return None
