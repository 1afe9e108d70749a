"""The calls on a box in three directions, which is handed in whole each time."""

from sumsstay.boxes import box_roundings
from sumsstay.boxes import is_box_rounding
from sumsstay.refusals import NOT_AS_MANY
from sumsstay.refusals import OUT_OF_RANGE
from sumsstay.refusals import all_within
from sumsstay.refusals import are_cells
from sumsstay.refusals import within


def may_be_box(base, sizes, cells):
    return within(base, 1, 100) and all_within(sizes, 1, 3) and are_cells(cells, 12)


def cell_count(sizes):
    return sizes[0] * sizes[1] * sizes[2]


def call_cube(base, sizes, cells):
    if not may_be_box(base, sizes, cells):
        return [OUT_OF_RANGE]
    if len(cells) != cell_count(sizes):
        return [NOT_AS_MANY]
    rows = box_roundings(base, sizes, cells)
    if not rows:
        return [0, 0]
    return [0, len(rows)] + rows[0]


def call_cubecheck(base, sizes, cells, numbers):
    if not (may_be_box(base, sizes, cells) and are_cells(numbers, 12)):
        return [OUT_OF_RANGE]
    if len(cells) != cell_count(sizes):
        return [NOT_AS_MANY]
    return [0, int(is_box_rounding(base, sizes, cells, numbers))]
