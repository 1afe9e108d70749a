"""Calls by name, their answers one by one, and a slow second look at tables, nets and boxes."""

import itertools
import random

from sumsstay.census import answers

BIG = 1000000000000000000


def counted(numbers):
    return [len(numbers)] + list(numbers)


def table(base, rows, columns, cells):
    return [0, base] + counted(rows) + counted(columns) + counted(cells)


def weights(cells, sums):
    return [1, cells, sums]


def keep(number, amount):
    return [2, number, amount]


def free(number):
    return [3, number]


ARCS = [4]
ROUND = [5]
PRICES = [6]
TRUTH = [9]
FLOW = [15]
FLOWPRICES = [16]
FLOWNONE = [18]
SIZES = [21]


def check(amounts, prices):
    return [7] + counted(amounts) + counted(prices)


def shows(nodes):
    return [8] + counted(nodes)


def distance(amounts):
    return [10] + counted(amounts)


def cell(row, column, number):
    return [11, row, column, number]


def cube(base, sizes, cells):
    return [12, base] + list(sizes) + counted(cells)


def cubecheck(base, sizes, cells, numbers):
    return [13, base] + list(sizes) + counted(cells) + counted(numbers)


def net(count, supplies, numbers):
    return [14, count] + counted(supplies) + counted(numbers)


def flowcheck(amounts, prices):
    return [17] + counted(amounts) + counted(prices)


def flowshows(nodes):
    return [19] + counted(nodes)


def cost(amounts):
    return [20] + counted(amounts)


def ask(*calls):
    """The answers to the calls, a list for each."""
    given = answers([number for call in calls for number in call])
    split = []
    place = 0
    while place < len(given):
        end = place + 1 + given[place]
        split.append(given[place + 1:end])
        place = end
    if place != len(given) or len(split) != len(calls):
        raise AssertionError("the counts don't lead to the answers' end: %r" % (given,))
    if any(not split_one for split_one in split):
        raise AssertionError("an answer without a number: %r" % (given,))
    if any(isinstance(number, bool) or not isinstance(number, int) for number in given):
        raise AssertionError("not whole numbers alone: %r" % (given,))
    return split


def last(*calls):
    return ask(*calls)[-1]


def leaves(above):
    return [node for node in range(len(above)) if node not in set(above[1:])]


def stands_under(above, node, top):
    while node != top and node != 0:
        node = above[node]
    return node == top


class Slow:
    """A net looked at slowly: by the document's words, and through all there is.

    nodes is how many there are, supplies holds one for each, and arcs() gives five numbers for each arc.
    """

    def overfull(self, nodes, arcs=None):
        total = sum(self.supplies[node] for node in nodes)
        for tail, head, low, high, price in self.arcs() if arcs is None else arcs:
            total -= high if tail in nodes and head not in nodes else 0
            total += low if head in nodes and tail not in nodes else 0
        return total

    def told_set(self):
        """The one that lies within all others that are overfull by the most, and by how much."""
        every = [set(group) for size in range(self.nodes + 1)
                 for group in itertools.combinations(range(self.nodes), size)]
        arcs = self.arcs()
        sums = [self.overfull(group, arcs) for group in every]
        most = max(sums)
        fullest = [group for group, by in zip(every, sums) if by == most]
        within = set.intersection(*fullest)
        if within not in fullest:
            raise AssertionError("none lies within all others: %r" % (fullest,))
        return most, sorted(within)

    def rests(self, amounts):
        found = []
        for amount, (tail, head, low, high, price) in zip(amounts, self.arcs()):
            if amount < high:
                found.append((tail, head, price))
            if amount > low:
                found.append((head, tail, -price))
        return found

    def told_prices(self, amounts):
        """The least of 0 and what any way that ends at the node costs: goes every way without a node twice."""
        rests = self.rests(amounts)
        least = [0] * self.nodes
        ways = [(node, 0, frozenset([node])) for node in range(self.nodes)]
        while ways:
            node, cost, been = ways.pop()
            least[node] = min(least[node], cost)
            for tail, head, price in rests:
                if tail == node and head not in been:
                    ways.append((head, cost + price, been | {head}))
        return least

    def proves(self, amounts, prices):
        for amount, (tail, head, low, high, price) in zip(amounts, self.arcs()):
            d = price + prices[tail] - prices[head]
            if (d < 0 and amount != high) or (d > 0 and amount != low):
                return False
        return True

    def lesser_row_as_cheap(self, amounts, prices):
        """Whether some flow ahead of one that costs least, as a row, costs the same; prices prove that one least.

        Another that costs the same differs by round trips along rests that cost nothing; one of them
        lessens the first arc that differs, and touches no arc before it.
        """
        arcs = self.arcs()
        for k, (tail, head, low, high, price) in enumerate(arcs):
            if amounts[k] > low and price + prices[tail] - prices[head] == 0:
                if self.leads_on(k + 1, tail, head, amounts, prices):
                    return True
        return False

    def leads_on(self, first, start, goal, amounts, prices):
        steps = []
        for amount, (tail, head, low, high, price) in list(zip(amounts, self.arcs()))[first:]:
            if price + prices[tail] - prices[head] == 0:
                steps += [(tail, head)] if amount < high else []
                steps += [(head, tail)] if amount > low else []
        been = {start}
        for step in range(self.nodes):
            been |= {head for tail, head in steps if tail in been}
        return goal in been


class Picture(Slow):
    """A table looked at slowly."""

    def __init__(self, base, rows, columns, cells, cell_weight=1, sum_weight=1, kept=None):
        self.base, self.rows, self.columns, self.cells = base, rows, columns, cells
        self.cell_weight, self.sum_weight = cell_weight, sum_weight
        self.kept = dict(kept or {})
        self.places = [(r, c) for r in leaves(rows) for c in leaves(columns)]
        self.members = self.cells_of_told()
        self.first_cell = len(rows)
        self.truth = self.sums(cells)
        self.nodes = len(rows) + len(columns)
        self.supplies = [0] * self.nodes

    def calls(self):
        """The calls that make it, one by one."""
        first = [table(self.base, self.rows, self.columns, self.cells), weights(self.cell_weight, self.sum_weight)]
        return first + [keep(number, amount) for number, amount in self.kept.items()]

    def ask(self, *calls):
        """The answers to calls on it."""
        made = self.calls()
        found = ask(*made, *calls)
        if any(answer[0] != 0 for answer in found[:len(made)]):
            raise AssertionError("the table isn't as it was meant: %r" % (found[:len(made)],))
        return found[len(made):]

    def cells_of_told(self):
        """For each told number the cells that it is the sum of."""
        every = list(range(len(self.places)))
        members = [every]
        for node in range(1, len(self.rows)):
            members.append([k for k in every if stands_under(self.rows, self.places[k][0], node)])
        members.extend([[k] for k in every])
        for node in range(1, len(self.columns)):
            members.append([k for k in every if stands_under(self.columns, self.places[k][1], node)])
        return members

    def sums(self, cells):
        return [sum(cells[k] for k in group) for group in self.members]

    def weight(self, number):
        is_cell = self.first_cell <= number < self.first_cell + len(self.cells)
        return self.cell_weight if is_cell else self.sum_weight

    def choices(self, number):
        """The amounts that are told for a rounding."""
        if number in self.kept:
            return [self.kept[number]]
        low, over = divmod(self.truth[number], self.base)
        return [low, low + 1] if over else [low]

    def is_rounding(self, amounts):
        cells = amounts[self.first_cell:self.first_cell + len(self.cells)]
        return (len(amounts) == len(self.truth) and self.sums(cells) == amounts
                and all(amount in self.choices(k) for k, amount in enumerate(amounts)))

    def roundings(self):
        spans = [self.choices(self.first_cell + k) for k in range(len(self.cells))]
        tried = [self.sums(cells) for cells in itertools.product(*spans)]
        return [amounts for amounts in tried if self.is_rounding(amounts)]

    def far(self, amounts):
        return sum(abs(self.base * amount - self.truth[k]) * self.weight(k) for k, amount in enumerate(amounts))

    def told_rounding(self):
        """How far it is, and its amounts; None without one."""
        return min([(self.far(amounts), amounts) for amounts in self.roundings()], default=None)

    def arc_ends(self):
        shift = len(self.rows)
        ends = [(shift, 0)]
        ends += [(above, node) for node, above in enumerate(self.rows)][1:]
        ends += [(r, shift + c) for r, c in self.places]
        ends += [(shift + node, shift + above) for node, above in enumerate(self.columns)][1:]
        return ends

    def arcs(self):
        found = []
        for k, (tail, head) in enumerate(self.arc_ends()):
            low, high = self.choices(k)[0], self.choices(k)[-1]
            price = 0
            if low != high:
                farther = abs(self.base * high - self.truth[k]) - abs(self.base * low - self.truth[k])
                price = farther * self.weight(k)
            found.append((tail, head, low, high, price))
        return found


class NetPicture(Slow):
    """A net that's handed in by itself, looked at slowly."""

    def __init__(self, supplies, arcs):
        self.supplies, self.five = supplies, arcs
        self.nodes = len(supplies)

    def arcs(self):
        return self.five

    def call(self):
        return net(self.nodes, self.supplies, [number for arc in self.five for number in arc])

    def ask(self, *calls):
        """The answers to calls on it."""
        found = ask(self.call(), *calls)
        if found[0] != [0, len(self.five)]:
            raise AssertionError("the net isn't as it was meant: %r" % (found[0],))
        return found[1:]

    def left(self, amounts):
        left = list(self.supplies)
        for node in range(self.nodes):
            left[node] += sum(amount for amount, arc in zip(amounts, self.five) if arc[1] == node)
            left[node] -= sum(amount for amount, arc in zip(amounts, self.five) if arc[0] == node)
        return left

    def cost(self, amounts):
        return sum(amount * arc[4] for amount, arc in zip(amounts, self.five))

    def is_flow(self, amounts):
        return (len(amounts) == len(self.five) and not any(self.left(amounts))
                and all(arc[2] <= amount <= arc[3] for amount, arc in zip(amounts, self.five)))

    def flows(self):
        spans = [range(arc[2], arc[3] + 1) for arc in self.five]
        return [list(amounts) for amounts in itertools.product(*spans) if self.is_flow(amounts)]

    def told_flow(self):
        """What it costs, and its amounts; None without one."""
        return min([(self.cost(amounts), amounts) for amounts in self.flows()], default=None)


class BoxPicture:
    """A box looked at slowly."""

    def __init__(self, base, sizes, cells):
        self.base, self.sizes, self.cells = base, sizes, cells
        self.indexes = list(itertools.product(*[range(size) for size in sizes]))
        self.truth = self.sums(cells)

    def call(self):
        return cube(self.base, self.sizes, self.cells)

    def check(self, numbers):
        return cubecheck(self.base, self.sizes, self.cells, numbers)

    def sums(self, numbers):
        """By the indexes that are held, with None for one that goes through: what's summed up."""
        found = {}
        for index, number in zip(self.indexes, numbers):
            for holds in itertools.product([False, True], repeat=3):
                held = tuple(place if hold else None for place, hold in zip(index, holds))
                found[held] = found.get(held, 0) + number
        return found

    def is_rounding(self, numbers):
        if len(numbers) != len(self.cells):
            return False
        rounded = self.sums(numbers)
        return all(abs(self.base * rounded[held] - true) < self.base for held, true in self.truth.items())

    def roundings(self):
        spans = [[low for low in (cell // self.base, cell // self.base + 1) if abs(self.base * low - cell) < self.base]
                 for cell in self.cells]
        return [list(numbers) for numbers in itertools.product(*spans) if self.is_rounding(numbers)]


def some_tree(source, most):
    above = [0]
    for node in range(1, source.randint(1, most)):
        above.append(source.randrange(node))
    return above


def some_picture(seed, most_nodes=5, most_cells=6, keeps=0):
    """A small table, the same for the same seed; with keeps, some told numbers are kept."""
    source = random.Random(seed)
    while True:
        rows, columns = some_tree(source, most_nodes), some_tree(source, most_nodes)
        size = len(leaves(rows)) * len(leaves(columns))
        if size <= most_cells:
            break
    base = source.choice([1, 2, 3, 5, 7, 10, 100])
    greatest = source.choice([base, 3 * base, 50])
    cells = [source.randint(0, greatest) for k in range(size)]
    cells = [base * cell if source.randrange(4) == 0 else cell for cell in cells]
    picture = Picture(base, rows, columns, cells, source.choice([0, 0, 1, 1, 3, 9]), source.choice([0, 0, 1, 1, 2, 9]))
    for k in range(source.randint(0, keeps)):
        number = source.randrange(len(picture.truth))
        amount = picture.truth[number] // base + source.choice([-1, 0, 0, 0, 1, 1, 2])
        picture.kept[number] = max(amount, 0)
    return picture


def large_pictures():
    """Tables of the most nodes and cells that may be handed in, and some between."""
    source = random.Random(61)
    six_leaves = [[0, 0, 0, 0, 0, 0, 0, 1], [0, 0, 0, 0, 3, 3, 0, 0], [0, 0, 1, 1, 1, 1, 1, 1]]
    trees = [(rows, columns) for rows in six_leaves for columns in six_leaves]
    trees += [([0] * 8, [0, 0, 0, 0, 0, 0]), ([0, 0, 1, 1, 3, 3, 5, 5], [0] * 8), ([0, 0, 1, 2, 3, 4, 5, 6], [0] * 8)]
    found = []
    for rows, columns in trees:
        for base, greatest in ((100, 1000000), (7, 20), (2, 1), (1, 1000000)):
            size = len(leaves(rows)) * len(leaves(columns))
            cells = [source.randint(0, greatest) for k in range(size)]
            pair = source.choice([(1, 1), (0, 1), (1, 0), (0, 0), (9, 9), (2, 3)])
            found.append(Picture(base, rows, columns, cells, *pair))
    return found


def some_net(seed, most_nodes=4, most_arcs=5, widest=3):
    """A small net, the same for the same seed; often it has a flow."""
    source = random.Random(seed)
    nodes = source.randint(1, most_nodes)
    arcs = []
    for k in range(source.randint(0, most_arcs)):
        low = source.randint(-3, 3)
        price = source.choice([0, 0, source.randint(-2, 2), source.randint(-1000, 1000)])
        arcs.append((source.randrange(nodes), source.randrange(nodes), low, low + source.randint(0, widest), price))
    supplies = [0] * nodes
    for tail, head, low, high, price in arcs:
        amount = source.randint(low, high)
        supplies[tail] += amount
        supplies[head] -= amount
    if source.randrange(3) == 0:
        by = source.randint(1, 3)
        supplies[source.randrange(nodes)] += by
        supplies[source.randrange(nodes)] -= by
    return NetPicture(supplies, arcs)


def large_net(seed):
    """A net of 12 nodes and 30 arcs with wide ranges."""
    source = random.Random(seed)
    arcs = []
    for k in range(30):
        low, high = sorted([source.randint(-1000, 1000), source.randint(-1000, 1000)])
        if source.randrange(3):
            low, high = -1000, 1000
        price = source.choice([0, source.randint(-3, 3), source.randint(-1000, 1000)])
        arcs.append((source.randrange(12), source.randrange(12), low, high, price))
    supplies = [0] * 12
    for k in range(source.choice([0, 6, 40])):
        one, other, by = source.randrange(12), source.randrange(12), source.randint(0, 300)
        if supplies[one] + by <= 1000 and supplies[other] - by >= -1000:
            supplies[one] += by
            supplies[other] -= by
    return NetPicture(supplies, arcs)


def some_box(seed):
    source = random.Random(seed)
    sizes = source.choice([sizes for sizes in itertools.product([1, 2, 3], repeat=3)
                           if sizes[0] * sizes[1] * sizes[2] <= 12])
    base = source.choice([1, 2, 2, 3, 5, 10, 100])
    greatest = source.choice([base, 3 * base, 1000000])
    cells = [source.choice([source.randint(0, greatest), source.randint(0, greatest) // base * base])
             for k in range(sizes[0] * sizes[1] * sizes[2])]
    return BoxPicture(base, sizes, cells)
