"""What several modules need: the words of the texts, and the product of rows."""

FREE = "free"
BELOW = "below"
BETWEEN = " ; "


def product(one, other):
    return sum([mine * yours for mine, yours in zip(one, other)])
