"""The told flow, the told prices and the told set of a net."""

from sumsstay.nets import left_at_nodes


class Rest:
    """A rest beside amounts: each unit of it changes the numbered arc by step, 1 or -1."""

    def __init__(self, start, end, price, number, step, room):
        self.start = start
        self.end = end
        self.price = price
        self.number = number
        self.step = step
        self.room = room


class Told:
    """The amounts of a net's told flow, and no nodes; or None, and the nodes of its told set, rising."""

    def __init__(self, amounts, nodes):
        self.amounts = amounts
        self.nodes = nodes


class Ways:
    """For each node what the cheapest way to it costs (None without one), and that way's last rest."""

    def __init__(self, costs, lasts):
        self.costs = costs
        self.lasts = lasts


def rests_beside(net, amounts, prices):
    rests = []
    for number, arc in enumerate(net.arcs):
        above = arc.greatest - amounts[number]
        below = amounts[number] - arc.least
        if above > 0:
            rests.append(Rest(arc.tail, arc.head, prices[number], number, 1, above))
        if below > 0:
            rests.append(Rest(arc.head, arc.tail, -prices[number], number, -1, below))
    return rests


def take_cheaper(ways, rests):
    """Lengthen the known ways by each rest where that is cheaper; whether any was."""
    changed = False
    for rest in rests:
        before = ways.costs[rest.start]
        if before is not None:
            cost = before + rest.price
            known = ways.costs[rest.end]
            if known is None or cost < known:
                ways.costs[rest.end] = cost
                ways.lasts[rest.end] = rest
                changed = True
    return changed


def cheapest_ways(count, starts, rests):
    """The cheapest ways from any of the starts to each of count nodes."""
    ways = Ways([None] * count, [None] * count)
    for start in starts:
        ways.costs[start] = 0
    # No round trip along rests costs less than 0 here, so no cheapest way needs a node twice.
    for turn in range(count):
        if not take_cheaper(ways, rests):
            break
    return ways


def rests_on_way(ways, goal):
    """The rests on the cheapest way to the goal, the last one first."""
    found = []
    last = ways.lasts[goal]
    while last is not None:
        found.append(last)
        last = ways.lasts[last.start]
    return found


def nodes_with_more(left):
    return [node for node, amount in enumerate(left) if amount > 0]


def ordering_prices(net):
    """Prices for the arcs by which flows are in order by cost and, at the same cost, as rows.

    The arcs' amounts above their least are read as the digits of one number, the first arc's
    the highest: of two rows the lesser has the lesser number. All these numbers are below
    `places` in the end, so that they decide between flows of the same cost alone.
    """
    places = 1
    digits = []
    for arc in reversed(net.arcs):
        digits.append(places)
        places *= arc.greatest - arc.least + 1
    digits.reverse()
    return [arc.price * places + digit for arc, digit in zip(net.arcs, digits)]


def push_along(amounts, rests, most):
    by = min([most] + [rest.room for rest in rests])
    for rest in rests:
        amounts[rest.number] += rest.step * by


def level_once(net, amounts, prices):
    """Send what's left from a node with more to one with less by a cheapest way; whether there was one."""
    left = left_at_nodes(net, amounts)
    rests = rests_beside(net, amounts, prices)
    ways = cheapest_ways(len(left), nodes_with_more(left), rests)
    for goal, amount in enumerate(left):
        if amount < 0 and ways.costs[goal] is not None:
            way = rests_on_way(ways, goal)
            push_along(amounts, way, min(left[way[-1].start], -amount))
            return True
    return False


def levelled(net):
    """Amounts within their bounds that leave as little as can be; the told flow where there is one."""
    prices = ordering_prices(net)
    # From here no rest costs less than 0, and a cheapest way never makes a round trip that does:
    # when nothing is left any more, no other flow comes ahead of this one.
    amounts = [arc.greatest if price < 0 else arc.least for arc, price in zip(net.arcs, prices)]
    while level_once(net, amounts, prices):
        pass
    return amounts


def stuck_nodes(net, amounts, more):
    """The nodes that what's left too much can be sent to, rising; more are the nodes where it's left."""
    # Every set that is overfull by the most holds these: leaving one out would leave a rest across its edge.
    no_prices = [0] * len(net.arcs)
    ways = cheapest_ways(len(net.supplies), more, rests_beside(net, amounts, no_prices))
    return [node for node, cost in enumerate(ways.costs) if cost is not None]


def told_of(net):
    """The told flow of the net, or its told set."""
    amounts = levelled(net)
    more = nodes_with_more(left_at_nodes(net, amounts))
    if more:
        return Told(None, stuck_nodes(net, amounts, more))
    return Told(amounts, [])


def told_prices(net, amounts):
    """The told prices of the nodes for amounts that are a flow that costs least."""
    prices = [arc.price for arc in net.arcs]
    count = len(net.supplies)
    return cheapest_ways(count, list(range(count)), rests_beside(net, amounts, prices)).costs
