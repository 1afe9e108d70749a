"""Tables by two trees: what's told in them, and their nets."""

from sumsstay.multiples import units_beside
from sumsstay.nets import Arc
from sumsstay.nets import Net


class Table:
    """A table with its weights and what's kept in it.

    rows and columns hold for each node the one above it, kept the amounts by told number.
    """

    def __init__(self, base, rows, columns, cells):
        self.base = base
        self.rows = rows
        self.columns = columns
        self.cells = cells
        self.cell_weight = 1
        self.sum_weight = 1
        self.kept = {}


def is_tree(above):
    if above[0] != 0:
        return False
    return all([above[node] < node for node in range(1, len(above))])


def leaves_of(above):
    # Node 0 stands as the one above itself; that doesn't make it one with a node beneath it.
    return [node for node in range(len(above)) if node not in above[1:]]


def told_count(table):
    return len(table.rows) + len(table.cells) + len(table.columns) - 1


def sums_of_nodes(above, leaf_sums):
    """The sums of all the tree's nodes, from those of its leaves."""
    sums = [0] * len(above)
    for leaf, leaf_sum in zip(leaves_of(above), leaf_sums):
        sums[leaf] = leaf_sum
    # Each node stands behind the one above it, so from the end on it's whole when it's handed up.
    for node in range(len(above) - 1, 0, -1):
        sums[above[node]] += sums[node]
    return sums


def truth_of(table):
    """The true numbers, in the order in which they are told."""
    width = len(leaves_of(table.columns))
    starts = list(range(0, len(table.cells), width))
    row_sums = [sum(table.cells[start:start + width]) for start in starts]
    column_sums = [sum([table.cells[start + place] for start in starts]) for place in range(width)]
    told_rows = sums_of_nodes(table.rows, row_sums)
    told_columns = sums_of_nodes(table.columns, column_sums)
    # Both trees' nodes 0 have the sum of all, which is told once.
    return told_rows + table.cells + told_columns[1:]


def weights_of(table):
    """The weight of each number that's told."""
    row_weights = [table.sum_weight] * len(table.rows)
    cell_weights = [table.cell_weight] * len(table.cells)
    column_weights = [table.sum_weight] * (len(table.columns) - 1)
    return row_weights + cell_weights + column_weights


def ends_of_arcs(table):
    """The tail and the head of each arc of the table's net."""
    shift = len(table.rows)
    ends = [(shift, 0)]
    for node in range(1, len(table.rows)):
        ends.append((table.rows[node], node))
    for row_leaf in leaves_of(table.rows):
        for column_leaf in leaves_of(table.columns):
            ends.append((row_leaf, shift + column_leaf))
    for node in range(1, len(table.columns)):
        ends.append((shift + node, shift + table.columns[node]))
    return ends


def rounded_arc(ends, base, true, weight):
    units = units_beside(true, base)
    # Of a multiple both are the same and neither is away from it: its price comes out as 0.
    price = ((units[1] * base - true) - (true - units[0] * base)) * weight
    return Arc(ends[0], ends[1], units[0], units[1], price)


def net_of(table):
    """The table's net."""
    truth = truth_of(table)
    weights = weights_of(table)
    arcs = []
    for number, ends in enumerate(ends_of_arcs(table)):
        if number in table.kept:
            arcs.append(Arc(ends[0], ends[1], table.kept[number], table.kept[number], 0))
        else:
            arcs.append(rounded_arc(ends, table.base, truth[number], weights[number]))
    return Net([0] * (len(table.rows) + len(table.columns)), arcs)


def how_far(table, amounts):
    """How far amounts, as many as are told, are from the table."""
    total = 0
    for amount, true, weight in zip(amounts, truth_of(table), weights_of(table)):
        total += abs(table.base * amount - true) * weight
    return total
