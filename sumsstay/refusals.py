"""The refusals' numbers, and whether what a call hands in is within what's told for it."""

OUT_OF_RANGE = -1
NOTHING_BEGUN = -2
NOT_THERE = -3
NO_TREE = -5
NOT_AS_MANY = -6
NOT_LEVEL = -7


def within(number, least, greatest):
    return least <= number and number <= greatest


def all_within(numbers, least, greatest):
    return all([within(number, least, greatest) for number in numbers])


def are_cells(numbers, most):
    """Whether they may be handed in as at most so many cells, or as what a box's cells are rounded to."""
    return len(numbers) <= most and all_within(numbers, 0, 1000000)


def are_amounts(numbers):
    """Whether they may be handed in as amounts, or as prices of nodes."""
    return len(numbers) <= 80 and all_within(numbers, -1000000000, 1000000000)


def are_nodes(numbers):
    """Whether they may be handed in as a set of nodes."""
    return len(numbers) <= 16 and all_within(numbers, 0, 15)


def is_set_of_nodes(numbers, count):
    """Whether each is one of count nodes, and none stands there twice."""
    return all_within(numbers, 0, count - 1) and len(set(numbers)) == len(numbers)
