"""Bounds that part two yards."""

from scaleyard.points import clash
from scaleyard.working import weighted


def parted(one, other, wide):
    weights = clash(one + other, wide)
    if weights is None:
        return None
    # What the clash takes of one and what it takes of other cancel each other but for a limit of -1 or below.
    return weighted(one, weights[:len(one)], wide)
