"""The tests' own sums, by parts of numbers: what the document says of points, weights, tops and shadows.

Nothing here draws on the program, and all goes another way than the program's: by trying the corners of a yard.
"""

import itertools
from fractions import Fraction

from samples import turned_signs

HUGE = 10 ** 60
NO_POINT = "no point"
NO_TOP = "no top"


def unknowns(point):
    return [Fraction(number, point[1]) for number in point[0]]


def sum_at(row, at):
    return sum(number * part for number, part in zip(row, at, strict=True))


def kept_at(bounds, at):
    return all(sum_at(row, at) <= limit for row, limit in bounds)


def kept_by_fractions(bounds, point):
    return kept_at(bounds, unknowns(point))


def same_point(point, times):
    return tuple(number * times for number in point[0]), point[1] * times


def as_point(at):
    """The point with these parts of numbers as its unknowns."""
    divisor = 1
    for part in at:
        divisor *= part.denominator
    return tuple(int(part * divisor) for part in at), divisor


def weights_row(bounds, weights, wide):
    return tuple(sum(weight * row[place] for weight, (row, limit) in zip(weights, bounds)) for place in range(wide))


def weights_limit(bounds, weights):
    return sum(weight * limit for weight, (row, limit) in zip(weights, bounds))


def solved(bounds, wide):
    """Unknowns at which each bound's sum is just its limit, the free ones 0; None if there are none."""
    rows = [[Fraction(number) for number in row] + [Fraction(limit)] for row, limit in bounds]
    led = []
    for place in range(wide):
        fit = [k for k in range(len(led), len(rows)) if rows[k][place] != 0]
        if not fit:
            continue
        here = len(led)
        rows[here], rows[fit[0]] = rows[fit[0]], rows[here]
        rows[here] = [part / rows[here][place] for part in rows[here]]
        for k in range(len(rows)):
            if k != here and rows[k][place] != 0:
                rows[k] = [part - rows[k][place] * lead for part, lead in zip(rows[k], rows[here])]
        led.append(place)
    if any(row[wide] != 0 for row in rows[len(led):]):
        return None
    at = [Fraction(0)] * wide
    for row, place in zip(rows, led):
        at[place] = row[wide]
    return at


def corners(bounds, wide):
    """Unknowns that keep all bounds, at least one for each smallest face: so none just if there is no point."""
    found = []
    for many in range(min(len(bounds), wide) + 1):
        for chosen in itertools.combinations(bounds, many):
            at = solved(chosen, wide)
            if at is not None and at not in found and kept_at(bounds, at):
                found.append(at)
    return found


def has_point(bounds, wide):
    return bool(corners(bounds, wide))


def highest(bounds, wide, aim):
    """How high a sum comes in a yard: a part of numbers, NO_TOP or NO_POINT."""
    found = corners(bounds, wide)
    if not found:
        return NO_POINT
    if has_point([(row, 0) for row, limit in bounds] + [(turned_signs(aim), -1)], wide):
        return NO_TOP
    return max(sum_at(aim, at) for at in found)


def follows_by_fractions(bounds, wide, bound):
    height = highest(bounds, wide, bound[0])
    return height == NO_POINT or (height != NO_TOP and height <= bound[1])


def last_stretch(bounds, at):
    """The least and the largest last unknown behind these, each None where there is none; None if nothing does."""
    least, largest = None, None
    for row, limit in bounds:
        left = limit - sum_at(row[:-1], at)
        if row[-1] == 0 and left < 0:
            return None
        if row[-1] > 0:
            largest = left / row[-1] if largest is None else min(largest, left / row[-1])
        if row[-1] < 0:
            least = left / row[-1] if least is None else max(least, left / row[-1])
    if least is not None and largest is not None and least > largest:
        return None
    return least, largest
