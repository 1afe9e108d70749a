"""The multiples of a base that a number lies between."""


def units_beside(number, base):
    """The multiples of the base right below and right above, divided by it; of a multiple itself, twice."""
    return (number // base, (number + base - 1) // base)
