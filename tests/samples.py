"""Yards, points and things that are neither, for all tests."""

LARGEST = 1000000
WIDES = (1, 2, 3)


def row_of(wide, first):
    return tuple(first + place for place in range(wide))


def yard_of(wide, many):
    """A yard of so many bounds, of which all numbers are unlike."""
    return tuple((row_of(wide, 10 * k - 25), 7 * k - 3) for k in range(many))


def parts_swapped(thing, swap):
    """All things that come of swapping just one part of a nested tuple, itself too, where swap tells another."""
    found = list(swap(thing))
    if isinstance(thing, tuple):
        for place, part in enumerate(thing):
            for other in parts_swapped(part, swap):
                found.append(thing[:place] + (other,) + thing[place + 1:])
    return found


def numbers_swapped(thing, *others):
    return parts_swapped(thing, lambda part: others if isinstance(part, int) else ())


def lists_for_tuples(thing):
    return parts_swapped(thing, lambda part: (list(part),) if isinstance(part, tuple) else ())


def all_lists(thing):
    return [all_lists(part) for part in thing] if isinstance(thing, tuple) else thing


def nested(kind, core, deep):
    thing = core
    for _ in range(deep):
        thing = kind((thing,))
    return thing


def other_things():
    """Things that are neither a yard nor a point for any number of unknowns."""
    plain = [None, True, False, 0, 1, -1, 6, 10 ** 40, "", " ", "free", "1 below 2", "12", "()"]
    lists = [[], [[]], [()], [0], [None], ["a", 1], [((1,), 2)], [(1,), 2], [[[1], 2]]]
    tuples = [(0,), (None,), (True,), ("",), ("ab",), ("a", 1), ("1", 1), (1, 2), (1, (1,)), (None, 1),
              ((),), ((), ()), ((), 1), ([],), ([], 1), (((), 1),), ((), 1, 1), ((((1,), 2),),), ((((1,), 1),), 1)]
    deep = [nested(kind, core, 30) for kind in (tuple, list) for core in ((), [], 0, None, "a", ((1,), 2))]
    deep.append((nested(tuple, 1, 29), 1))
    deep.append(((nested(tuple, 1, 28), 1),))
    deep.append(((1,), nested(tuple, 1, 29)))
    return plain + lists + tuples + deep


def no_yards(wide):
    """Things that are no yards of so many unknowns: each but little unlike one."""
    found = [yard_of(wide, 7), yard_of(wide, 8)]
    for many in (1, 6):
        yard = yard_of(wide, many)
        found += numbers_swapped(yard, True, False, None, "1", "", (1,), (), [1])
        found += numbers_swapped(yard, LARGEST + 1, -LARGEST - 1, 10 ** 40, -(10 ** 40))
        found += lists_for_tuples(yard)
        found.append(all_lists(yard))
        for place in range(many):
            found += [yard[:place] + (bound,) + yard[place + 1:] for bound in no_bounds(wide)]
    found.append(yard_of(wide, 1)[0])
    found.append(yard_of(wide, 1)[0][0])
    found.append(list(yard_of(wide, 0)))
    return found + other_things()


def no_bounds(wide):
    row = row_of(wide, 4)
    found = [(row_of(length, 4), 5) for length in range(6) if length != wide]
    found += [(), (row,), (row, 5, 5), (row, 5, ()), (row, row), (5, row), (5, 5), row, (row, (5,)), ((row,), 5)]
    return found + [None, 5, True, "5", "", "ab", ((row, 5),), ("a" * wide, 5), (None, 5), (row, None)]
