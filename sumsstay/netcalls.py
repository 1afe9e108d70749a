"""The calls on a net that's handed in by itself. Each gives back its whole answer.

What's refused is looked for in the order of the refusals' numbers, the one nearest to 0 first,
and nothing is changed ahead of the last of them.
"""

from sumsstay.flows import told_of
from sumsstay.netanswers import check_answer
from sumsstay.netanswers import prices_answer
from sumsstay.netanswers import shows_answer
from sumsstay.nets import Arc
from sumsstay.nets import Net
from sumsstay.nets import cost_of
from sumsstay.nets import is_flow
from sumsstay.nets import left_at_nodes
from sumsstay.nets import overfull_by
from sumsstay.refusals import NOTHING_BEGUN
from sumsstay.refusals import NOT_AS_MANY
from sumsstay.refusals import NOT_LEVEL
from sumsstay.refusals import NOT_THERE
from sumsstay.refusals import OUT_OF_RANGE
from sumsstay.refusals import all_within
from sumsstay.refusals import are_amounts
from sumsstay.refusals import are_nodes
from sumsstay.refusals import within


def arcs_in(numbers):
    """The arcs that are told by five numbers each."""
    arcs = []
    for place in range(0, len(numbers), 5):
        five = numbers[place:place + 5]
        arcs.append(Arc(five[0], five[1], five[2], five[3], five[4]))
    return arcs


def may_be_arc(arc):
    if not (all_within([arc.tail, arc.head], 0, 11) and all_within([arc.least, arc.greatest, arc.price], -1000, 1000)):
        return False
    return arc.least <= arc.greatest


def may_be_arcs(numbers):
    if len(numbers) > 150 or len(numbers) % 5 != 0:
        return False
    return all([may_be_arc(arc) for arc in arcs_in(numbers)])


def may_be_supplies(numbers):
    return len(numbers) <= 12 and all_within(numbers, -1000, 1000)


def call_net(line, count, supplies, numbers):
    if not (within(count, 1, 12) and may_be_supplies(supplies) and may_be_arcs(numbers)):
        return [OUT_OF_RANGE]
    arcs = arcs_in(numbers)
    if not all([arc.tail < count and arc.head < count for arc in arcs]):
        return [NOT_THERE]
    if len(supplies) != count:
        return [NOT_AS_MANY]
    if sum(supplies) != 0:
        return [NOT_LEVEL]
    line.net = Net(supplies, arcs)
    return [0, len(arcs)]


def call_flow(line):
    if line.net is None:
        return [NOTHING_BEGUN]
    told = told_of(line.net)
    if told.amounts is None:
        return [0, 0] + told.nodes
    return [0, 1, cost_of(line.net, told.amounts)] + told.amounts


def call_flowprices(line):
    if line.net is None:
        return [NOTHING_BEGUN]
    return prices_answer(line.net)


def call_flowcheck(line, amounts, node_prices):
    if not (are_amounts(amounts) and are_amounts(node_prices)):
        return [OUT_OF_RANGE]
    if line.net is None:
        return [NOTHING_BEGUN]
    return check_answer(line.net, amounts, node_prices)


def call_flownone(line):
    if line.net is None:
        return [NOTHING_BEGUN]
    told = told_of(line.net)
    if told.amounts is not None:
        return [0, 0]
    return [0, 1, overfull_by(line.net, told.nodes)] + told.nodes


def call_flowshows(line, nodes):
    if not are_nodes(nodes):
        return [OUT_OF_RANGE]
    if line.net is None:
        return [NOTHING_BEGUN]
    return shows_answer(line.net, nodes)


def call_cost(line, amounts):
    if not are_amounts(amounts):
        return [OUT_OF_RANGE]
    if line.net is None:
        return [NOTHING_BEGUN]
    if len(amounts) != len(line.net.arcs):
        return [NOT_AS_MANY]
    return [0, cost_of(line.net, amounts), int(is_flow(line.net, amounts))] + left_at_nodes(line.net, amounts)
