"""The calls net, flow, flowprices, flowcheck, flownone, flowshows and cost; promises 2 and 3."""

import itertools
import random
import unittest

from helper import FLOW, FLOWNONE, FLOWPRICES, SIZES, NetPicture, ask, cost, flowcheck, flowshows, large_net, last, net
from helper import some_net

# From 0 to 1 by two arcs, or by way of 2.
PLAIN = NetPicture([3, -3, 0], [(0, 1, 0, 1, 4), (0, 1, 0, 2, 9), (0, 2, 0, 5, 2), (2, 1, 0, 1, 1)])
# 4 are to go from 0 to 2, but node 1 lets just 1 through.
STUCK = NetPicture([4, 0, -4], [(0, 1, 0, 3, 5), (1, 2, 0, 1, 5), (2, 0, 0, 9, 0)])


class Told(unittest.TestCase):
    def test_ordinary(self):
        self.assertEqual(PLAIN.ask(FLOW), [[0, 1, 16, 1, 1, 1, 1]])

    def test_no_arcs(self):
        self.assertEqual(ask(net(1, [0], []), FLOW, FLOWPRICES, FLOWNONE), [[0, 0], [0, 1, 0], [0, 1, 0], [0, 0]])
        self.assertEqual(ask(net(3, [0, 0, 0], []), FLOW, FLOWPRICES)[1:], [[0, 1, 0], [0, 1, 0, 0, 0]])
        self.assertEqual(ask(net(4, [0, 2, -5, 3], []), FLOW, FLOWPRICES, FLOWNONE)[1:],
                         [[0, 0, 1, 3], [0, 0], [0, 1, 5, 1, 3]])

    def test_an_arc_from_a_node_to_itself(self):
        for low, high, price, told in ((-2, 5, 3, -2), (-2, 5, -3, 5), (-2, 5, 0, -2), (4, 4, -9, 4)):
            alone = NetPicture([0], [(0, 0, low, high, price)])
            self.assertEqual(alone.ask(FLOW, FLOWPRICES, FLOWNONE), [[0, 1, told * price, told], [0, 1, 0], [0, 0]])

    def test_an_arc_to_itself_brings_nothing_away(self):
        self.assertEqual(NetPicture([1, -1], [(0, 0, 0, 9, -1)]).ask(FLOW, FLOWNONE), [[0, 0, 0], [0, 1, 1, 0]])

    def test_several_arcs_between_the_same_nodes(self):
        # The cheap one first, whatever its number; at the same price the lesser row: the later ones have more.
        self.assertEqual(NetPicture([3, -3], [(0, 1, 0, 2, 5), (0, 1, 0, 2, 3)]).ask(FLOW), [[0, 1, 11, 1, 2]])
        self.assertEqual(NetPicture([3, -3], [(0, 1, 0, 2, 3), (0, 1, 0, 2, 3)]).ask(FLOW), [[0, 1, 9, 1, 2]])
        self.assertEqual(NetPicture([3, -3], [(0, 1, -9, 2, 3), (0, 1, 0, 20, 3)]).ask(FLOW), [[0, 1, 9, -9, 12]])

    def test_arcs_there_and_back(self):
        # A round trip that costs less than 0 is gone as often as it can be; one that costs 0 not more than it must.
        self.assertEqual(NetPicture([0, 0], [(0, 1, 0, 7, -5), (1, 0, 0, 4, 4)]).ask(FLOW), [[0, 1, -4, 4, 4]])
        self.assertEqual(NetPicture([0, 0], [(0, 1, 0, 7, -4), (1, 0, 0, 4, 4)]).ask(FLOW), [[0, 1, 0, 0, 0]])
        self.assertEqual(NetPicture([0, 0], [(0, 1, -3, 7, -4), (1, 0, -5, 4, 4)]).ask(FLOW), [[0, 1, 0, -3, -3]])

    def test_amounts_below_0(self):
        self.assertEqual(NetPicture([-2, 2], [(0, 1, -5, 5, 1)]).ask(FLOW, FLOWPRICES), [[0, 1, -2, -2], [0, 1, -1, 0]])

    def test_the_widest_ranges(self):
        wide = NetPicture([1000, -1000], [(0, 1, -1000, 1000, 1000), (1, 0, -1000, 1000, -1000)] * 15)
        answer, prices = wide.ask(FLOW, FLOWPRICES)
        self.assertTold(wide, answer, prices)
        self.assertEqual(answer, [0, 1, 1000000] + [-1000] * 28 + [0, -1000])

    def test_the_same_price_everywhere(self):
        for price in (-1000, -1, 0, 1):
            same = NetPicture([0] * 12, [(k % 12, (k * 5 + 1) % 12, -1000, 1000, price) for k in range(30)])
            self.assertTold(same, *same.ask(FLOW, FLOWPRICES))

    def test_small_nets_against_all_amounts(self):
        flows = missing = ties = 0
        for seed in range(900):
            picture = some_net(seed)
            every = picture.flows()
            answer, prices, none = picture.ask(FLOW, FLOWPRICES, FLOWNONE)
            if every:
                told = picture.told_flow()
                self.assertEqual(answer, [0, 1, told[0]] + told[1], seed)
                self.assertEqual(prices, [0, 1] + picture.told_prices(told[1]), seed)
                self.assertEqual(none, [0, 0], seed)
                self.assertEqual(picture.ask(flowcheck(told[1], prices[2:])), [[0, 1, 1]], seed)
                flows += 1
                ties += len([amounts for amounts in every if picture.cost(amounts) == told[0]]) > 1
            else:
                most, nodes = picture.told_set()
                self.assertGreater(most, 0, seed)
                self.assertEqual(answer, [0, 0] + nodes, seed)
                self.assertEqual(prices, [0, 0], seed)
                self.assertEqual(none, [0, 1, most] + nodes, seed)
                self.assertEqual(picture.ask(flowshows(nodes)), [[0, 1, most]], seed)
                missing += 1
        self.assertGreater(min(flows, missing), 100)
        self.assertGreater(ties, 80)

    def test_wider_nets_of_few_arcs_against_all_amounts(self):
        for seed in range(60):
            picture = some_net(5000 + seed, 3, 3, 12)
            told = picture.told_flow()
            answer = picture.ask(FLOW)[0]
            self.assertEqual(answer, [0, 1, told[0]] + told[1] if told else [0, 0] + picture.told_set()[1], seed)

    def test_large_nets(self):
        flows = missing = 0
        for seed in range(150):
            picture = large_net(seed)
            answer, prices, none = picture.ask(FLOW, FLOWPRICES, FLOWNONE)
            if answer[1]:
                self.assertTold(picture, answer, prices)
                self.assertEqual(none, [0, 0], seed)
                flows += 1
            else:
                by = picture.overfull(set(answer[2:]))
                self.assertGreater(by, 0, seed)
                self.assertEqual(answer[2:], sorted(set(answer[2:])), seed)
                self.assertEqual([prices, none], [[0, 0], [0, 1, by] + answer[2:]], seed)
                missing += 1
        self.assertGreater(min(flows, missing), 20)

    def test_large_nets_without_a_flow_against_all_sets(self):
        found = 0
        for seed in range(150):
            picture = large_net(seed)
            answer = picture.ask(FLOW)[0]
            if answer[1] == 0 and found < 12:
                self.assertEqual(answer[2:], picture.told_set()[1], seed)
                found += 1
        self.assertEqual(found, 12)

    def assertTold(self, picture, answer, prices):
        """It's a flow, is proved least, and none that costs the same stands ahead of it."""
        amounts = answer[3:]
        self.assertEqual([answer[:2], prices[:2]], [[0, 1], [0, 1]])
        self.assertTrue(picture.is_flow(amounts))
        self.assertEqual(answer[2], picture.cost(amounts))
        self.assertTrue(picture.proves(amounts, prices[2:]))
        self.assertLessEqual(max(prices[2:]), 0)
        self.assertFalse(picture.lesser_row_as_cheap(amounts, prices[2:]))
        self.assertEqual(picture.ask(flowcheck(amounts, prices[2:])), [[0, 1, 1]])


class Prices(unittest.TestCase):
    def test_ordinary(self):
        # Beside the told flow there are rests from 1 to 0 with -4 and -9, from 0 to 1 with 9, and so on.
        self.assertEqual(PLAIN.ask(FLOWPRICES), [[0, 1] + PLAIN.told_prices([1, 1, 1, 1])])
        self.assertEqual(PLAIN.ask(FLOWPRICES), [[0, 1, -9, 0, -7]])

    def test_a_way_of_several_rests(self):
        chain = NetPicture([0] * 4, [(0, 1, 0, 1, -3), (1, 2, 0, 1, -4), (2, 3, 0, 1, 5)])
        self.assertEqual(chain.ask(FLOWPRICES), [[0, 1, 0, -3, -7, -2]])

    def test_no_flow(self):
        self.assertEqual(STUCK.ask(FLOWPRICES), [[0, 0]])


class Check(unittest.TestCase):
    def test_ordinary(self):
        self.assertEqual(PLAIN.ask(flowcheck([1, 1, 1, 1], [-9, 0, -7])), [[0, 1, 1]])
        self.assertEqual(PLAIN.ask(flowcheck([1, 1, 1, 1], [0, 9, 2])), [[0, 1, 1]])
        self.assertEqual(PLAIN.ask(flowcheck([1, 1, 1, 1], [0, 0, 0])), [[0, 1, 0]])
        self.assertEqual(PLAIN.ask(flowcheck([1, 2, 0, 0], [-9, 0, -7])), [[0, 1, 0]])

    def test_amounts_that_are_no_flow(self):
        # Something left; above its greatest; below its least; too few; too many; none.
        for amounts in ([1, 1, 1, 0], [2, 0, 1, 1], [1, 3, -1, -1], [1, 1, 1], [1, 1, 1, 1, 0], []):
            self.assertEqual(PLAIN.ask(flowcheck(amounts, [-9, 0, -7])), [[0, 0, 0]])

    def test_prices_not_as_many_as_nodes(self):
        for prices in ([], [-9, 0], [-9, 0, -7, 0], [0] * 80):
            self.assertEqual(PLAIN.ask(flowcheck([1, 1, 1, 1], prices)), [[0, 1, 0]])

    def test_no_arcs(self):
        self.assertEqual(ask(net(2, [0, 0], []), flowcheck([], [5, -5]), flowcheck([], []), flowcheck([0], [0, 0]))[1:],
                         [[0, 1, 1], [0, 1, 0], [0, 0, 0]])
        self.assertEqual(last(net(2, [1, -1], []), flowcheck([], [0, 0])), [0, 0, 0])

    def test_an_arc_to_itself_is_proved_by_its_price_alone(self):
        for price, amount, proves in ((3, 0, 1), (3, 1, 0), (-3, 2, 1), (-3, 1, 0), (0, 1, 1)):
            alone = NetPicture([0], [(0, 0, 0, 2, price)])
            self.assertEqual(alone.ask(flowcheck([amount], [77])), [[0, 1, proves]])

    def test_the_greatest_numbers(self):
        pair = NetPicture([0, 0], [(0, 1, 0, 0, 5)])
        self.assertEqual(pair.ask(flowcheck([0], [1000000000, -1000000000])), [[0, 1, 1]])
        self.assertEqual(pair.ask(flowcheck([1000000000], [0, 0])), [[0, 0, 0]])
        self.assertEqual(pair.ask(flowcheck([-1000000000] * 80, [0] * 80)), [[0, 0, 0]])

    def test_accepted_prices_never_prove_too_much(self):
        accepted = [0, 0]
        for seed in range(250):
            picture = some_net(seed)
            told = picture.told_flow()
            if told is None:
                continue
            source = random.Random(seed)
            prices = picture.told_prices(told[1])
            moved = [price + source.choice([0, 0, 0, -1, 1, 5]) for price in prices]
            for amounts in picture.flows()[:40]:
                for tried in (prices, moved):
                    answer = picture.ask(flowcheck(amounts, tried))[0]
                    self.assertEqual(answer, [0, 1, int(picture.proves(amounts, tried))], seed)
                    if answer[2]:
                        self.assertEqual(picture.cost(amounts), told[0], seed)
                    accepted[answer[2]] += 1
        self.assertGreater(min(accepted), 100)


class NoFlow(unittest.TestCase):
    def test_ordinary(self):
        self.assertEqual(STUCK.ask(FLOW, FLOWNONE), [[0, 0, 0, 1], [0, 1, 3, 0, 1]])
        self.assertEqual(PLAIN.ask(FLOWNONE), [[0, 0]])

    def test_least_amounts_that_bring_too_much(self):
        self.assertEqual(NetPicture([0, 0], [(0, 1, 2, 3, 0)]).ask(FLOW, FLOWNONE), [[0, 0, 1], [0, 1, 2, 1]])
        self.assertEqual(NetPicture([0, 0], [(0, 1, -3, -2, 0)]).ask(FLOW, FLOWNONE), [[0, 0, 0], [0, 1, 2, 0]])

    def test_all_of_one_more_than_its_arcs(self):
        apart = NetPicture([1, -1, 2, -2], [(0, 1, 0, 0, 0), (2, 3, 0, 1, 0)])
        self.assertEqual(apart.ask(FLOW, FLOWNONE), [[0, 0, 0, 2], [0, 1, 2, 0, 2]])

    def test_a_node_that_changes_nothing_stays_outside(self):
        # Node 2 has nothing and no arcs: with it the set is as overfull, but isn't within the other.
        self.assertEqual(NetPicture([1, -1, 0], []).ask(FLOW), [[0, 0, 0]])


class Shows(unittest.TestCase):
    def test_ordinary(self):
        self.assertEqual(STUCK.ask(flowshows([0, 1]), flowshows([0]), flowshows([1]), flowshows([2])),
                         [[0, 1, 3], [0, 1, 1], [0, 0, -1], [0, 0, -13]])

    def test_none_and_all(self):
        self.assertEqual(STUCK.ask(flowshows([]), flowshows([0, 1, 2]), flowshows([2, 0, 1])),
                         [[0, 0, 0], [0, 0, 0], [0, 0, 0]])

    def test_just_full_shows_nothing(self):
        self.assertEqual(NetPicture([2, -2], [(0, 1, 0, 2, 0)]).ask(flowshows([0])), [[0, 0, 0]])

    def test_an_arc_to_itself_crosses_no_edge(self):
        self.assertEqual(NetPicture([1, -1], [(0, 0, 3, 9, 1)]).ask(flowshows([0]), flowshows([1])),
                         [[0, 1, 1], [0, 0, -1]])

    def test_all_sets_of_small_nets(self):
        for seed in range(60):
            picture = some_net(seed)
            for size in range(picture.nodes + 1):
                for nodes in itertools.combinations(range(picture.nodes), size):
                    by = picture.overfull(set(nodes))
                    self.assertEqual(picture.ask(flowshows(nodes)), [[0, int(by > 0), by]], seed)

    def test_sets_of_large_nets(self):
        for seed in range(60):
            picture = large_net(seed)
            nodes = random.Random(seed).sample(range(12), seed % 13)
            by = picture.overfull(set(nodes))
            self.assertEqual(picture.ask(flowshows(nodes)), [[0, int(by > 0), by]], seed)


class Cost(unittest.TestCase):
    def test_ordinary(self):
        self.assertEqual(PLAIN.ask(cost([1, 1, 1, 1]), cost([1, 2, 0, 0])), [[0, 16, 1, 0, 0, 0], [0, 22, 1, 0, 0, 0]])

    def test_amounts_that_are_no_flow(self):
        self.assertEqual(PLAIN.ask(cost([0, 0, 0, 0])), [[0, 0, 0, 3, -3, 0]])
        self.assertEqual(PLAIN.ask(cost([-1, 5, 2, 7])), [[0, 52, 0, -3, 8, -5]])
        # Nothing is left, but the first is above its greatest.
        self.assertEqual(PLAIN.ask(cost([3, 0, 0, 0])), [[0, 12, 0, 0, 0, 0]])

    def test_an_arc_to_itself_leaves_nothing(self):
        self.assertEqual(NetPicture([0], [(0, 0, 0, 2, -7)]).ask(cost([2]), cost([3])), [[0, -14, 1, 0], [0, -21, 0, 0]])

    def test_no_arcs(self):
        self.assertEqual(ask(net(2, [4, -4], []), cost([]), cost([0]))[1:], [[0, 0, 0, 4, -4], [-6]])

    def test_too_few_and_too_many(self):
        for amounts in ([], [1, 1, 1], [1, 1, 1, 1, 0], [0] * 80):
            self.assertEqual(PLAIN.ask(cost(amounts)), [[-6]])

    def test_the_greatest_numbers(self):
        picture = NetPicture([0, 0], [(0, 1, -1000, 1000, 1000)] * 30)
        self.assertEqual(picture.ask(cost([1000000000] * 30)),
                         [[0, 30 * 1000 * 1000000000, 0, -30000000000, 30000000000]])

    def test_against_the_slow_look(self):
        for seed in range(200):
            picture = some_net(seed) if seed % 2 else large_net(seed)
            source = random.Random(seed)
            amounts = [source.randint(arc[2] - seed % 3, arc[3]) for arc in picture.arcs()]
            expected = [0, picture.cost(amounts), int(picture.is_flow(amounts))] + picture.left(amounts)
            self.assertEqual(picture.ask(cost(amounts)), [expected], seed)


class Sizes(unittest.TestCase):
    def test_of_nets(self):
        self.assertEqual(PLAIN.ask(SIZES), [[0, 0, 0, 0, 0, 1, 3, 4]])
        self.assertEqual(large_net(0).ask(SIZES), [[0, 0, 0, 0, 0, 1, 12, 30]])
        self.assertEqual(last(net(1, [0], []), SIZES), [0, 0, 0, 0, 0, 1, 1, 0])

    def test_a_new_net_comes_instead_of_the_old_one(self):
        found = ask(PLAIN.call(), STUCK.call(), SIZES, FLOW, FLOWNONE, flowshows([0]))
        self.assertEqual(found[2:], [[0, 0, 0, 0, 0, 1, 3, 3]] + STUCK.ask(FLOW, FLOWNONE, flowshows([0])))


if __name__ == "__main__":
    unittest.main()
