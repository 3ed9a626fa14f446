"""Which points keep bounds, and what lies half-way between two points."""

from scaleyard.working import product


def keeps(bound, point):
    return product(bound[0], point[0]) <= bound[1] * point[1]


def kept(bounds, point):
    return all([keeps(bound, point) for bound in bounds])


def middle(one, other):
    # Times the other's divisor, both rows stand over the same one and can be added; twice that one halves the sum.
    row = [mine * other[1] + yours * one[1] for mine, yours in zip(one[0], other[0])]
    return tuple(row), 2 * one[1] * other[1]
