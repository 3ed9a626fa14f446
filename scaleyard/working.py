"""What several modules need: the words of the texts, sums over rows and bounds, and shortened numbers."""

FREE = "free"
BELOW = "below"
BETWEEN = " ; "


def product(one, other):
    return sum([mine * yours for mine, yours in zip(one, other)])


def turned(row):
    return tuple([-number for number in row])


def numbers_at(bounds, place):
    return [bound[0][place] for bound in bounds]


def weighted_limit(bounds, weights):
    return product(weights, [bound[1] for bound in bounds])


# Told apart from the bounds, wide holds for no bounds too, and leaves out unknowns that the weights cancel.
def weighted(bounds, weights, wide):
    row = [product(weights, numbers_at(bounds, place)) for place in range(wide)]
    return tuple(row), weighted_limit(bounds, weights)


def common_divisor(numbers):
    found = 0
    for number in numbers:
        other = abs(number)
        while other > 0:
            rest = found % other
            found = other
            other = rest
    return found


# Without it, numbers would about double in length with each unknown that is cancelled.
def shortened(numbers):
    divisor = max(common_divisor(numbers), 1)
    return tuple([number // divisor for number in numbers])
