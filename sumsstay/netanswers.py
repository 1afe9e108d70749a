"""What's answered of a net alike, whether it's a table's or one that was handed in."""

from sumsstay.flows import told_of
from sumsstay.flows import told_prices
from sumsstay.nets import is_flow
from sumsstay.nets import overfull_by
from sumsstay.nets import proves_least
from sumsstay.refusals import NOT_THERE
from sumsstay.refusals import is_set_of_nodes


def prices_answer(net):
    amounts = told_of(net).amounts
    if amounts is None:
        return [0, 0]
    return [0, 1] + told_prices(net, amounts)


def check_answer(net, amounts, node_prices):
    if not is_flow(net, amounts):
        return [0, 0, 0]
    return [0, 1, int(proves_least(net, amounts, node_prices))]


def shows_answer(net, nodes):
    if not is_set_of_nodes(nodes, len(net.supplies)):
        return [NOT_THERE]
    by = overfull_by(net, nodes)
    return [0, int(by > 0), by]
