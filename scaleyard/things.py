"""Which things are yards and which are points."""

LARGEST = 1000000
MOST_BOUNDS = 6


def is_whole(thing):
    # Python counts True and False among the ints; here they are no whole numbers.
    return isinstance(thing, int) and not isinstance(thing, bool)


def is_row(thing, wide):
    return isinstance(thing, tuple) and len(thing) == wide and all([is_whole(part) for part in thing])


# Bounds and points have this form in common: a limit or a divisor stands behind the row.
def is_row_with_whole(thing, wide):
    return isinstance(thing, tuple) and len(thing) == 2 and is_row(thing[0], wide) and is_whole(thing[1])


def is_in_reach(number):
    return -LARGEST <= number <= LARGEST


# Only a yard holds its bounds' numbers within reach; a bound by itself may have any.
def is_yard_bound(thing, wide):
    if not is_row_with_whole(thing, wide):
        return False
    return is_in_reach(thing[1]) and all([is_in_reach(number) for number in thing[0]])


def is_yard(thing, wide):
    if not isinstance(thing, tuple) or len(thing) > MOST_BOUNDS:
        return False
    return all([is_yard_bound(part, wide) for part in thing])


def is_point(thing, wide):
    return is_row_with_whole(thing, wide) and thing[1] >= 1
