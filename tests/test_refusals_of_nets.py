"""Every refusal of the calls 11 to 21: its number alone, the edges of the ranges, the one nearest to 0; promise 4."""

import unittest

from helper import (ARCS, BIG, FLOW, FLOWNONE, FLOWPRICES, PRICES, ROUND, SIZES, TRUTH, ask, cell, check, cost, cube,
                    cubecheck, distance, flowcheck, flowshows, keep, last, net, shows, table, weights)
from test_refusals import EVERY as EARLIER

FLAT = table(10, [0, 0, 0], [0, 0, 0], [4, 7, 12, 20])
AMOUNTS = [4, 1, 3, 1, 0, 1, 2, 2, 2]
TWO_ARCS = [0, 1, 0, 4, 3, 1, 2, 0, 4, -1]
NET = net(3, [2, 0, -2], TWO_ARCS)
STUCK = net(3, [5, 0, -5], TWO_ARCS)
MADE = (FLAT, weights(2, 3), keep(3, 1), keep(8, 2), NET)
ASKED = (SIZES, ARCS, ROUND, PRICES, TRUTH, distance(AMOUNTS), check(AMOUNTS, [0] * 6), shows([0, 3]), FLOW, FLOWPRICES,
         FLOWNONE, flowcheck([2, 2], [0, 3, 2]), flowshows([0]), cost([1, 2]), SIZES)

OUTSIDE_AMOUNTS = ([1000000001], [-1000000001], [0] * 81, [0] * 160, [BIG] * 160, [0] * 8 + [-BIG])
OUTSIDE_NODES = ([-1], [16], [0, 1, 16], [0] * 17, [0] * 160, [BIG], [-BIG])
OUTSIDE_CELLS = ([-1], [1000001], [0] * 13, [0] * 160, [BIG], [-BIG])


def with_arc(*arc):
    """A net of three nodes whose second arc is this one."""
    return net(3, [0, 0, 0], [0, 1, 0, 4, 3] + list(arc))


CELLS_OUT_OF_RANGE = [cell(*three) for three in (
    (-1, 0, 0), (36, 0, 0), (0, -1, 0), (0, 36, 0), (0, 0, -1), (0, 0, 1000001), (BIG, 0, 0), (0, -BIG, 0), (0, 0, BIG))]

BOXES_OUT_OF_RANGE = (
    [cube(base, (1, 1, 1), [4]) for base in (0, -1, 101, BIG, -BIG)]
    + [cube(5, sizes, [4]) for sizes in (
        (0, 1, 1), (1, 0, 1), (1, 1, 0), (4, 1, 1), (1, 4, 1), (1, 1, 4), (-1, -1, 1), (BIG, 1, 1), (1, 1, -BIG))]
    + [cube(5, (1, 1, 1), cells) for cells in OUTSIDE_CELLS]
    + [cubecheck(base, (1, 1, 1), [4], [1]) for base in (0, 101)]
    + [cubecheck(5, sizes, [4], [1]) for sizes in ((0, 1, 1), (1, 4, 1), (1, 1, BIG))]
    + [cubecheck(5, (1, 1, 1), cells, [1]) for cells in OUTSIDE_CELLS]
    + [cubecheck(5, (1, 1, 1), [4], numbers) for numbers in OUTSIDE_CELLS]
)

NETS_OUT_OF_RANGE = (
    [net(count, [0], []) for count in (0, -1, 13, BIG, -BIG)]
    + [net(3, supplies, []) for supplies in (
        [1001, 0, -1001], [0, 1001, -1000], [0, 0, -1001], [0] * 13, [0] * 160, [BIG, -BIG, 0])]
    + [net(3, [0, 0, 0], [0] * length) for length in (1, 2, 3, 4, 6, 9, 11, 149, 151, 155, 160)]
    + [with_arc(*arc) for arc in (
        (-1, 0, 0, 0, 0), (12, 0, 0, 0, 0), (0, -1, 0, 0, 0), (0, 12, 0, 0, 0), (0, 1, -1001, 0, 0), (0, 1, 0, 1001, 0),
        (0, 1, 1001, 1001, 0), (0, 1, -1001, -1001, 0), (0, 1, 0, 0, 1001), (0, 1, 0, 0, -1001), (0, 1, 1, 0, 0),
        (0, 1, 1000, -1000, 0), (0, 0, 0, -1, 0), (BIG, 0, 0, 0, 0), (0, 1, -BIG, BIG, 0), (0, 1, 0, 0, BIG))]
)

ASKING_OUT_OF_RANGE = (
    [flowcheck(amounts, [0, 0, 0]) for amounts in OUTSIDE_AMOUNTS]
    + [flowcheck([2, 2], prices) for prices in OUTSIDE_AMOUNTS]
    + [flowshows(nodes) for nodes in OUTSIDE_NODES]
    + [cost(amounts) for amounts in OUTSIDE_AMOUNTS]
)

OUT_OF_RANGE = CELLS_OUT_OF_RANGE + BOXES_OUT_OF_RANGE + NETS_OUT_OF_RANGE + ASKING_OUT_OF_RANGE

NEEDS_TABLE = [cell(0, 0, 0), cell(35, 35, 1000000), cell(2, 0, 5)]
NEEDS_NET = [
    FLOW, FLOWPRICES, FLOWNONE, flowcheck([], []), flowcheck([0] * 80, [0] * 80), flowcheck([2, 2], [0, 3, 2]),
    flowshows([]), flowshows([15]), flowshows([0, 0]), flowshows([15] * 16), cost([]), cost([0] * 80), cost([1, 1]),
]

NOT_THERE = [
    cell(2, 0, 5), cell(0, 2, 5), cell(2, 2, 5), cell(35, 0, 5), cell(0, 35, 5), cell(35, 35, 1000000),
    flowshows([3]), flowshows([15]), flowshows([0, 0]), flowshows([1, 2, 1]), flowshows([0, 1, 2, 3]),
    flowshows([15] * 16),
    with_arc(3, 0, 0, 0, 0), with_arc(0, 3, 0, 0, 0), with_arc(11, 11, 0, 0, 0), net(1, [0], [0, 1, 0, 0, 0]),
    net(11, [0] * 11, [11, 0, 0, 0, 0]),
]

NOT_AS_MANY = [
    cube(5, (1, 1, 1), []), cube(5, (1, 1, 1), [4, 4]), cube(5, (2, 2, 2), [4] * 7), cube(5, (2, 2, 2), [4] * 9),
    cube(5, (3, 3, 3), [4] * 12), cube(5, (3, 3, 2), [4] * 12), cube(5, (3, 2, 2), [4] * 11),
    cubecheck(5, (1, 1, 1), [], []), cubecheck(5, (2, 1, 1), [4], [1]), cubecheck(5, (2, 1, 1), [4], [1, 1]),
    cubecheck(5, (3, 3, 3), [4] * 12, [1] * 12), cubecheck(5, (1, 1, 2), [4, 4, 4], [1, 1]),
    net(3, [], []), net(3, [0, 0], []), net(3, [0, 0, 0, 0], []), net(1, [1, -1], []), net(12, [0] * 11, []),
    net(11, [0] * 12, TWO_ARCS),
    cost([]), cost([1]), cost([1, 1, 1]), cost([0] * 80),
]

NOT_LEVEL = [
    net(1, [1], []), net(1, [-1], []), net(3, [1, 0, 0], TWO_ARCS), net(3, [1000, 1000, 1000], []),
    net(2, [1000, -999], []), net(12, [0] * 11 + [-1000], TWO_ARCS),
]

EVERY = (
    [(call, -1) for call in OUT_OF_RANGE] + [(call, -3) for call in NOT_THERE]
    + [(call, -6) for call in NOT_AS_MANY] + [(call, -7) for call in NOT_LEVEL]
)


class Refused(unittest.TestCase):
    def test_each_with_a_table_and_a_net_and_that_nothing_changes(self):
        before = ask(*MADE, *ASKED)[len(MADE):]
        for call, number in EVERY + EARLIER:
            found = ask(*MADE, *ASKED, call, *ASKED)[len(MADE):]
            self.assertEqual(found[:len(ASKED)], before, call)
            self.assertEqual(found[len(ASKED)], [number], call)
            self.assertEqual(found[len(ASKED) + 1:], before, call)

    def test_each_with_a_net_that_has_no_flow(self):
        made = (FLAT, keep(0, 9), STUCK)
        before = ask(*made, *ASKED)[len(made):]
        for call, number in EVERY:
            found = ask(*made, call, *ASKED)[len(made):]
            self.assertEqual(found, [[number]] + before, call)

    def test_all_behind_one_another_change_nothing(self):
        before = ask(*MADE, *ASKED)[len(MADE):]
        for first in range(0, len(EVERY), 40):
            calls = [call for call, number in EVERY[first:first + 40]]
            self.assertEqual(ask(*MADE, *calls, *ASKED)[-len(ASKED):], before)

    def test_the_questions_tell_tables_and_nets_apart(self):
        before = ask(*MADE, *ASKED)[len(MADE):]
        for change in (FLAT, cell(0, 0, 5), cell(1, 1, 21), keep(2, 3), STUCK, net(3, [2, 0, -2], TWO_ARCS[:9] + [0]),
                       net(3, [0, 0, 0], TWO_ARCS), net(4, [2, 0, -2, 0], TWO_ARCS)):
            self.assertNotEqual(ask(*MADE, change, *ASKED)[len(MADE) + 1:], before)

    def test_without_a_table_and_a_net(self):
        nothing = [0] * 8
        for call in OUT_OF_RANGE:
            self.assertEqual(ask(SIZES, call, SIZES), [nothing, [-1], nothing], call)
        for call in NEEDS_TABLE + NEEDS_NET:
            self.assertEqual(ask(SIZES, call, SIZES), [nothing, [-2], nothing], call)
        for call, number in EVERY:
            if call[0] in (12, 13, 14):
                self.assertEqual(ask(SIZES, call, SIZES), [nothing, [number], nothing], call)

    def test_a_net_is_no_table_and_a_table_no_net(self):
        for call in NEEDS_TABLE:
            self.assertEqual(last(NET, call), [-2], call)
            self.assertNotEqual(last(FLAT, call), [-2], call)
        for call in NEEDS_NET:
            self.assertEqual(last(FLAT, call), [-2], call)
            self.assertNotEqual(last(NET, call), [-2], call)

    def test_a_refused_net_is_none(self):
        for call, number in EVERY:
            if call[0] == 14:
                self.assertEqual(ask(call, FLOW), [[number], [-2]], call)


class Nearest(unittest.TestCase):
    def test_range_ahead_of_all(self):
        self.assertEqual(last(cell(36, 0, 0)), [-1])
        self.assertEqual(last(FLAT, cell(35, 35, -1)), [-1])
        self.assertEqual(last(cube(5, (3, 3, 4), [4])), [-1])
        self.assertEqual(last(cube(5, (3, 3, 3), [4] * 13)), [-1])
        self.assertEqual(last(cube(0, (2, 1, 1), [4])), [-1])
        self.assertEqual(last(cubecheck(5, (2, 1, 1), [4], [-1])), [-1])
        self.assertEqual(last(cubecheck(5, (2, 1, 1), [4], [0] * 13)), [-1])
        self.assertEqual(last(net(3, [5], [0, 9, 0, 0, 1001])), [-1])
        self.assertEqual(last(net(3, [5], [0, 9, 1, 0, 0])), [-1])
        self.assertEqual(last(net(3, [5], [0, 9, 1, 1])), [-1])
        self.assertEqual(last(net(13, [5], [0, 9, 0, 0, 0])), [-1])
        self.assertEqual(last(net(3, [1001], [0, 9, 0, 0, 0])), [-1])
        for call in ASKING_OUT_OF_RANGE:
            self.assertEqual(ask(call, NET, call), [[-1], [0, 2], [-1]], call)
        self.assertEqual(last(NET, flowshows([0, 0, 16])), [-1])
        self.assertEqual(last(NET, cost([0, 0, 1000000001])), [-1])

    def test_no_table_and_no_net_ahead_of_the_rest(self):
        self.assertEqual(last(cell(35, 35, 0)), [-2])
        self.assertEqual(last(flowshows([3, 3])), [-2])
        self.assertEqual(last(cost([])), [-2])

    def test_no_node_ahead_of_too_few_supplies(self):
        self.assertEqual(last(net(3, [0], [0, 3, 0, 0, 0])), [-3])
        self.assertEqual(last(net(3, [0, 0, 0, 0], [3, 0, 0, 0, 0])), [-3])
        self.assertEqual(last(net(3, [1, 1, 1], [3, 0, 0, 0, 0])), [-3])

    def test_too_few_supplies_ahead_of_not_level(self):
        self.assertEqual(last(net(3, [1], [])), [-6])
        self.assertEqual(last(net(3, [1, 1, 1, 1], [])), [-6])
        self.assertEqual(last(net(1, [], [])), [-6])


class Edges(unittest.TestCase):
    def test_nets(self):
        self.assertEqual(last(net(1, [0], [])), [0, 0])
        self.assertEqual(last(net(12, [1000, -1000] * 6, [11, 0, -1000, 1000, -1000] * 30)), [0, 30])
        self.assertEqual(last(net(12, [0] * 12, [0, 11, 1000, 1000, 1000] * 29)), [0, 29])
        self.assertEqual(last(net(12, [0] * 12, [0, 11, -1000, -1000, 1000])), [0, 1])

    def test_boxes(self):
        self.assertEqual(last(cube(1, (3, 2, 2), [1000000] * 12)), [0, 1] + [1000000] * 12)
        self.assertEqual(last(cube(100, (2, 3, 2), [0] * 12)), [0, 1] + [0] * 12)
        self.assertEqual(last(cubecheck(1, (2, 2, 3), [1000000] * 12, [1000000] * 12)), [0, 1])
        self.assertEqual(last(cubecheck(1, (1, 1, 1), [0], [1000000])), [0, 0])

    def test_asking(self):
        largest = net(12, [0] * 12, [])
        self.assertEqual(last(largest, flowshows(list(range(12)))), [0, 0, 0])
        self.assertEqual(last(largest, flowshows([12])), [-3])
        self.assertEqual(last(largest, flowshows([11])), [0, 0, 0])
        self.assertEqual(last(NET, flowcheck([1000000000] * 80, [-1000000000] * 80)), [0, 0, 0])
        self.assertEqual(last(NET, cost([-1000000000, 1000000000])), [0, -4000000000, 0, 1000000002, -2000000000, 999999998])


if __name__ == "__main__":
    unittest.main()
