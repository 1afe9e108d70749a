"""The calls on a table. Each gives back its whole answer.

What's refused is looked for in the order of the refusals' numbers, the one nearest to 0 first,
and nothing is changed ahead of the last of them.
"""

from sumsstay.flows import told_of
from sumsstay.netanswers import check_answer
from sumsstay.netanswers import prices_answer
from sumsstay.netanswers import shows_answer
from sumsstay.nets import is_flow
from sumsstay.refusals import NOTHING_BEGUN
from sumsstay.refusals import NOT_AS_MANY
from sumsstay.refusals import NOT_THERE
from sumsstay.refusals import NO_TREE
from sumsstay.refusals import OUT_OF_RANGE
from sumsstay.refusals import all_within
from sumsstay.refusals import are_amounts
from sumsstay.refusals import are_cells
from sumsstay.refusals import are_nodes
from sumsstay.refusals import within
from sumsstay.tables import Table
from sumsstay.tables import how_far
from sumsstay.tables import is_tree
from sumsstay.tables import leaves_of
from sumsstay.tables import net_of
from sumsstay.tables import told_count
from sumsstay.tables import truth_of


def may_be_tree(numbers):
    return within(len(numbers), 1, 8) and all_within(numbers, 0, 7)


def call_table(line, base, rows, columns, cells):
    if not (within(base, 1, 100) and may_be_tree(rows) and may_be_tree(columns) and are_cells(cells, 36)):
        return [OUT_OF_RANGE]
    if not (is_tree(rows) and is_tree(columns)):
        return [NO_TREE]
    if len(cells) != len(leaves_of(rows)) * len(leaves_of(columns)):
        return [NOT_AS_MANY]
    line.table = Table(base, rows, columns, cells)
    return [0, told_count(line.table)]


def call_weights(line, cell_weight, sum_weight):
    if not all_within([cell_weight, sum_weight], 0, 9):
        return [OUT_OF_RANGE]
    table = line.table
    if table is None:
        return [NOTHING_BEGUN]
    table.cell_weight = cell_weight
    table.sum_weight = sum_weight
    return [0]


def call_keep(line, number, amount):
    if not (within(number, 0, 79) and within(amount, 0, 1000000)):
        return [OUT_OF_RANGE]
    table = line.table
    if table is None:
        return [NOTHING_BEGUN]
    if number >= told_count(table):
        return [NOT_THERE]
    table.kept[number] = amount
    return [0]


def call_free(line, number):
    if not within(number, 0, 79):
        return [OUT_OF_RANGE]
    table = line.table
    if table is None:
        return [NOTHING_BEGUN]
    if number not in table.kept:
        return [NOT_THERE]
    table.kept.pop(number)
    return [0]


def call_arcs(line):
    if line.table is None:
        return [NOTHING_BEGUN]
    answer = [0]
    for arc in net_of(line.table).arcs:
        answer.extend([arc.tail, arc.head, arc.least, arc.greatest, arc.price])
    return answer


def call_round(line):
    if line.table is None:
        return [NOTHING_BEGUN]
    told = told_of(net_of(line.table))
    if told.amounts is None:
        return [0, 0] + told.nodes
    return [0, 1, how_far(line.table, told.amounts)] + told.amounts


def call_prices(line):
    if line.table is None:
        return [NOTHING_BEGUN]
    return prices_answer(net_of(line.table))


def call_check(line, amounts, node_prices):
    if not (are_amounts(amounts) and are_amounts(node_prices)):
        return [OUT_OF_RANGE]
    if line.table is None:
        return [NOTHING_BEGUN]
    return check_answer(net_of(line.table), amounts, node_prices)


def call_shows(line, nodes):
    if not are_nodes(nodes):
        return [OUT_OF_RANGE]
    if line.table is None:
        return [NOTHING_BEGUN]
    return shows_answer(net_of(line.table), nodes)


def call_truth(line):
    if line.table is None:
        return [NOTHING_BEGUN]
    return [0] + truth_of(line.table)


def call_distance(line, amounts):
    if not are_amounts(amounts):
        return [OUT_OF_RANGE]
    if line.table is None:
        return [NOTHING_BEGUN]
    if len(amounts) != told_count(line.table):
        return [NOT_AS_MANY]
    return [0, how_far(line.table, amounts), int(is_flow(net_of(line.table), amounts))]


def call_cell(line, row_place, column_place, number):
    if not (all_within([row_place, column_place], 0, 35) and within(number, 0, 1000000)):
        return [OUT_OF_RANGE]
    table = line.table
    if table is None:
        return [NOTHING_BEGUN]
    width = len(leaves_of(table.columns))
    if row_place >= len(leaves_of(table.rows)) or column_place >= width:
        return [NOT_THERE]
    table.cells[row_place * width + column_place] = number
    return [0]
