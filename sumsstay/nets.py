"""Nets, and what can be asked of given amounts, prices and sets of nodes in them."""


class Arc:
    """An arc from its tail to its head: how much it may have, and what each unit costs."""

    def __init__(self, tail, head, least, greatest, price):
        self.tail = tail
        self.head = head
        self.least = least
        self.greatest = greatest
        self.price = price


class Net:
    """A supply for each node, and the arcs."""

    def __init__(self, supplies, arcs):
        self.supplies = supplies
        self.arcs = arcs


def left_at_nodes(net, amounts):
    left = list(net.supplies)
    for arc, amount in zip(net.arcs, amounts):
        left[arc.head] += amount
        left[arc.tail] -= amount
    return left


def cost_of(net, amounts):
    return sum([arc.price * amount for arc, amount in zip(net.arcs, amounts)])


def is_flow(net, amounts):
    if len(amounts) != len(net.arcs):
        return False
    for arc, amount in zip(net.arcs, amounts):
        if amount < arc.least or amount > arc.greatest:
            return False
    return all([left == 0 for left in left_at_nodes(net, amounts)])


def proves_least(net, amounts, node_prices):
    """Whether the prices of nodes prove the flow least."""
    if len(node_prices) != len(net.supplies):
        return False
    for arc, amount in zip(net.arcs, amounts):
        difference = arc.price + node_prices[arc.tail] - node_prices[arc.head]
        if difference < 0 and amount != arc.greatest:
            return False
        if difference > 0 and amount != arc.least:
            return False
    return True


def overfull_by(net, nodes):
    """By how much the set of nodes is overfull; each node stands in it once."""
    total = sum([net.supplies[node] for node in nodes])
    for arc in net.arcs:
        if arc.tail in nodes and arc.head not in nodes:
            total -= arc.greatest
        if arc.head in nodes and arc.tail not in nodes:
            total += arc.least
    return total
