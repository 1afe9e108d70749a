"""Boxes in three directions, and their roundings."""

from sumsstay.multiples import units_beside


class Bound:
    """The places of the cells that a sum is of, rising, and the least and the greatest it's rounded to."""

    def __init__(self, places, least, greatest):
        self.places = places
        self.least = least
        self.greatest = greatest


def spans_of(size):
    """The indexes that a sum has in one direction: all of them, or one that's held."""
    return [list(range(size))] + [[index] for index in range(size)]


def places_of(sizes, firsts, seconds, thirds):
    places = []
    for first in firsts:
        for second in seconds:
            for third in thirds:
                places.append((first * sizes[1] + second) * sizes[2] + third)
    return places


def bounds_of(base, sizes, cells):
    """The bounds of all sums of the box; with all three indexes held, of the cells themselves."""
    bounds = []
    for firsts in spans_of(sizes[0]):
        for seconds in spans_of(sizes[1]):
            for thirds in spans_of(sizes[2]):
                places = places_of(sizes, firsts, seconds, thirds)
                units = units_beside(sum([cells[place] for place in places]), base)
                bounds.append(Bound(places, units[0], units[1]))
    return bounds


def keeps_bounds(row, bounds):
    for bound in bounds:
        total = sum([row[place] for place in bound.places])
        if total < bound.least or total > bound.greatest:
            return False
    return True


def is_box_rounding(base, sizes, cells, row):
    return len(row) == len(cells) and keeps_bounds(row, bounds_of(base, sizes, cells))


def box_roundings(base, sizes, cells):
    """All roundings of the box, in order as rows."""
    bounds = bounds_of(base, sizes, cells)
    rows = [[]]
    for place, cell in enumerate(cells):
        # A sum is looked at as soon as the last of its cells is there.
        whole = [bound for bound in bounds if bound.places[-1] == place]
        units = units_beside(cell, base)
        longer = []
        for row in rows:
            longer.extend([row + [unit] for unit in range(units[0], units[1] + 1)])
        rows = [row for row in longer if keeps_bounds(row, whole)]
    return rows
