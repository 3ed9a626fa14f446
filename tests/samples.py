"""Yards, points and things that are neither, for all tests."""

import itertools

LARGEST = 1000000
WIDES = (1, 2, 3)


def row_of(wide, first):
    return tuple(first + place for place in range(wide))


def yard_of(wide, many):
    """A yard of so many bounds, of which all numbers are unlike."""
    return tuple((row_of(wide, 10 * k - 25), 7 * k - 3) for k in range(many))


def parts_swapped(thing, swap):
    """All things that come of swapping just one part of a nested tuple, itself too, where swap tells another."""
    found = list(swap(thing))
    if isinstance(thing, tuple):
        for place, part in enumerate(thing):
            for other in parts_swapped(part, swap):
                found.append(thing[:place] + (other,) + thing[place + 1:])
    return found


def numbers_swapped(thing, *others):
    return parts_swapped(thing, lambda part: others if isinstance(part, int) else ())


def lists_for_tuples(thing):
    return parts_swapped(thing, lambda part: (list(part),) if isinstance(part, tuple) else ())


def all_lists(thing):
    return [all_lists(part) for part in thing] if isinstance(thing, tuple) else thing


def nested(kind, core, deep):
    thing = core
    for _ in range(deep):
        thing = kind((thing,))
    return thing


def other_things():
    """Things that are neither a yard nor a point for any number of unknowns."""
    plain = [None, True, False, 0, 1, -1, 6, 10 ** 40, "", " ", "free", "1 below 2", "12", "()"]
    lists = [[], [[]], [()], [0], [None], ["a", 1], [((1,), 2)], [(1,), 2], [[[1], 2]]]
    tuples = [(0,), (None,), (True,), ("",), ("ab",), ("a", 1), ("1", 1), (1, 2), (1, (1,)), (None, 1),
              ((),), ((), ()), ((), 1), ([],), ([], 1), (((), 1),), ((), 1, 1), ((((1,), 2),),), ((((1,), 1),), 1)]
    deep = [nested(kind, core, 30) for kind in (tuple, list) for core in ((), [], 0, None, "a", ((1,), 2))]
    deep.append((nested(tuple, 1, 29), 1))
    deep.append(((nested(tuple, 1, 28), 1),))
    deep.append(((1,), nested(tuple, 1, 29)))
    return plain + lists + tuples + deep


def no_yards(wide):
    """Things that are no yards of so many unknowns: each but little unlike one."""
    found = [yard_of(wide, 7), yard_of(wide, 8)]
    for many in (1, 6):
        yard = yard_of(wide, many)
        found += numbers_swapped(yard, True, False, None, "1", "", (1,), (), [1])
        found += numbers_swapped(yard, LARGEST + 1, -LARGEST - 1, 10 ** 40, -(10 ** 40))
        found += lists_for_tuples(yard)
        found.append(all_lists(yard))
        for place in range(many):
            found += [yard[:place] + (bound,) + yard[place + 1:] for bound in no_bounds(wide)]
    found.append(yard_of(wide, 1)[0])
    found.append(yard_of(wide, 1)[0][0])
    found.append(list(yard_of(wide, 0)))
    return found + other_things()


def no_bounds(wide):
    row = row_of(wide, 4)
    found = [(row_of(length, 4), 5) for length in range(6) if length != wide]
    found += [(), (row,), (row, 5, 5), (row, 5, ()), (row, row), (5, row), (5, 5), row, (row, (5,)), ((row,), 5)]
    return found + [None, 5, True, "5", "", "ab", ((row, 5),), ("a" * wide, 5), (None, 5), (row, None)]


class Draw:
    """Numbers by a fixed rule: the same in each run."""

    def __init__(self, seed):
        self.state = seed

    def below(self, end):
        found, reach = 0, 1
        while reach < end:
            self.state = (self.state * 6364136223846793005 + 1442695040888963407) % 2 ** 64
            found, reach = found << 31 | self.state >> 33, reach << 31
        return found % end

    def between(self, least, largest):
        return least + self.below(largest - least + 1)

    def one_of(self, several):
        return several[self.below(len(several))]

    def row(self, wide, reach):
        return tuple(self.between(-reach, reach) for _ in range(wide))

    def bound(self, wide, reach):
        return self.row(wide, reach), self.between(-reach, reach)


def combined(bounds, times, wide, change):
    """The sum of bounds, each so many times, turned to its contrary, the limit changed somewhat."""
    row = tuple(-sum(often * bound[0][place] for often, bound in zip(times, bounds)) for place in range(wide))
    return row, change - sum(often * bound[1] for often, bound in zip(times, bounds))


def within(bound):
    return all(-LARGEST <= number <= LARGEST for number in bound[0] + bound[1:])


def drawn_bound(draw, wide, reach, before):
    """A bound of its own, or one that has to do with those before it: the same, near, or against their sum."""
    kind = draw.below(9)
    if kind == 0:
        return (0,) * wide, draw.one_of((-1, 0, 1, LARGEST, -LARGEST, draw.between(-reach, reach)))
    if kind == 1:
        edges = (-LARGEST, LARGEST, 0, 1, -1)
        return tuple(draw.one_of(edges) for _ in range(wide)), draw.one_of(edges)
    found = draw.bound(wide, reach)
    if before and kind == 2:
        found = draw.one_of(before)
    if before and kind == 3:
        found = (draw.one_of(before)[0], draw.between(-reach, reach))
    if before and kind in (4, 5):
        found = combined((draw.one_of(before),), (1,), wide, draw.one_of((-1, 0, 1)))
    if before and kind in (6, 7):
        found = combined(before, [draw.below(3) for _ in before], wide, draw.one_of((-1, 0, 1)))
    return found if within(found) else draw.bound(wide, reach)


def drawn_yard(draw, wide, many):
    bounds = []
    reach = draw.one_of((1, 2, 3, 5, 30, 1000, LARGEST))
    centre = draw.row(wide, 3)
    for _ in range(many):
        bounds.append(drawn_bound(draw, wide, reach, bounds))
    if draw.below(2):
        bounds = [widened(bound, centre) for bound in bounds]
    turn = draw.below(many + 1)
    return tuple(bounds[turn:] + bounds[:turn])


def widened(bound, centre):
    """A bound that is kept there, often just so, where its limit doesn't come too high by that."""
    found = bound[0], max(bound[1], sum(number * there for number, there in zip(bound[0], centre)))
    return found if within(found) else bound


def closed_yard(draw, wide, many):
    """A yard of which the bound behind the first ones closes them in, to a little, to one point or to nothing."""
    reach = draw.one_of((1, 2, 5, 30, 1000, LARGEST // 12))
    bounds = [draw.bound(wide, reach) for _ in range(wide)]
    bounds.append(combined(bounds, [draw.between(1, 4) for _ in bounds], wide, draw.one_of((-1, 0, 1, reach))))
    while len(bounds) < many:
        bounds.append(drawn_bound(draw, wide, reach, bounds))
    turn = draw.below(many + 1)
    return tuple(bounds[turn:] + bounds[:turn])


def drawn_yards(wide, count, most=6, seed=7):
    draw = Draw(seed * 1000 + wide)
    found = []
    for k in range(count):
        drawn = closed_yard if k % 3 == 0 and most > wide else drawn_yard
        found.append(drawn(draw, wide, draw.below(most + 1) if k % 2 else most))
    return found


def units(wide):
    return [tuple(int(place == chosen) for place in range(wide)) for chosen in range(wide)]


def turned_signs(row):
    return tuple(-number for number in row)


def named_yards(wide):
    """The edges that the document names, and yards of which a clash takes as many bounds as it may."""
    row, zero, ones, most = row_of(wide, 1), (0,) * wide, (1,) * wide, (LARGEST,) * wide
    slope = tuple(LARGEST - place for place in range(wide))
    corner = tuple((turned_signs(unit), 0) for unit in units(wide))
    found = [(), ((row, 5),), ((row, LARGEST),), ((row, -LARGEST),), ((row, 5), (row, 5)), ((row, 5), (row, -7))]
    found += [((row, 5), (turned_signs(row), limit)) for limit in (-6, -5, -4)]
    found += [((zero, limit),) for limit in (-LARGEST, -1, 0, 1, LARGEST)]
    found += [((zero, -1), (zero, -1), (row, 3)), ((row, 3), (zero, -2)), ((zero, 0),) * 6, ((row, 1),) * 6]
    found += [corner] + [corner + ((ones, limit),) for limit in (-LARGEST, -1, 0, 1, LARGEST)]
    found += [corner + ((most, limit), (turned_signs(most), -1)) for limit in (0, 1, 2)]
    found += [((slope, limit), (turned_signs(slope), 0), (most, 1), (turned_signs(most), 1)) for limit in (-1, 0, 1)]
    return found + [tuple(reversed(yard)) for yard in found if len(yard) > 2]


def all_small_yards(wide, many, numbers):
    """Every yard of so many bounds with these numbers, each set of bounds in one order."""
    rows = itertools.product(numbers, repeat=wide + 1)
    return itertools.combinations_with_replacement([(row[:-1], row[-1]) for row in rows], many)
