"""The calls keep, free and shows; promise 3."""

import itertools
import random
import unittest

from helper import ARCS, PRICES, ROUND, TRUTH, Picture, ask, check, free, keep, large_pictures, last, shows, some_picture
from helper import table, weights

ONE = table(5, [0], [0], [4])
FLAT = table(10, [0, 0, 0], [0, 0, 0], [4, 7, 12, 20])


class Keep(unittest.TestCase):
    def test_at_an_amount_of_a_rounding(self):
        self.assertEqual(ask(ONE, keep(1, 0), ROUND)[1:], [[0], [0, 1, 8, 0, 0]])
        self.assertEqual(last(FLAT, keep(3, 1), ROUND), [0, 1, 32, 4, 1, 3, 1, 0, 1, 2, 2, 2])

    def test_at_another_amount(self):
        self.assertEqual(last(ONE, keep(0, 3), keep(1, 3), ROUND), [0, 1, 22, 3, 3])
        self.assertEqual(last(ONE, keep(0, 1000000), keep(1, 1000000), ROUND), [0, 1, 9999992, 1000000, 1000000])

    def test_a_multiple_kept_at_another_amount(self):
        ten = table(10, [0], [0, 0, 0], [10, 5])
        self.assertEqual(last(ten, keep(1, 0), keep(0, 1), ROUND), [0, 0, 0, 1, 3])
        self.assertEqual(last(ten, keep(1, 0), keep(0, 1), keep(3, 0), ROUND), [0, 1, 35, 1, 0, 1, 0, 1])

    def test_kept_again_at_another(self):
        self.assertEqual(last(ONE, keep(1, 3), keep(1, 0), ARCS), [0, 1, 0, 0, 1, -3, 0, 1, 0, 0, 0])
        self.assertEqual(last(ONE, keep(1, 0), keep(1, 1), ROUND), [0, 1, 2, 1, 1])

    def test_freed(self):
        self.assertEqual(ask(ONE, keep(1, 0), free(1), ARCS)[2:], [[0], [0, 1, 0, 0, 1, -3, 0, 1, 0, 1, -3]])
        self.assertEqual(last(ONE, keep(0, 3), keep(1, 3), free(0), ROUND), [0, 0, 1])
        self.assertEqual(last(ONE, keep(0, 3), keep(1, 3), free(1), ROUND), [0, 0, 0])

    def test_freed_and_kept_again(self):
        self.assertEqual(last(ONE, keep(1, 0), free(1), keep(1, 1), ARCS), [0, 1, 0, 0, 1, -3, 0, 1, 1, 1, 0])

    def test_weights_and_truth_stay(self):
        self.assertEqual(last(ONE, weights(1, 7), keep(1, 3), ARCS), [0, 1, 0, 0, 1, -21, 0, 1, 3, 3, 0])
        self.assertEqual(last(ONE, keep(1, 3), weights(1, 7), ARCS), [0, 1, 0, 0, 1, -21, 0, 1, 3, 3, 0])
        self.assertEqual(last(ONE, keep(1, 3), TRUTH), [0, 4, 4])

    def test_all_kept_as_told_stay_as_told(self):
        for picture in large_pictures()[::3]:
            told = picture.ask(ROUND)[0]
            kept = {number: amount for number, amount in list(enumerate(told[3:]))[::-1] if amount <= 1000000}
            again = Picture(picture.base, picture.rows, picture.columns, picture.cells,
                            picture.cell_weight, picture.sum_weight, kept)
            self.assertEqual(again.ask(ROUND)[0], told)


class NoRounding(unittest.TestCase):
    def test_the_told_set(self):
        self.assertEqual(ask(ONE, keep(0, 3), ROUND, shows([0]))[2:], [[0, 0, 0], [0, 1, 2]])
        self.assertEqual(ask(ONE, keep(0, 0), keep(1, 1), ROUND, shows([1]))[3:], [[0, 0, 1], [0, 1, 1]])

    def test_more_than_one_node(self):
        # Rows' nodes 2 and 3 beneath 1, whose sum is a multiple and so 1 in any rounding.
        calls = (table(10, [0, 0, 1, 1], [0], [5, 5]), keep(1, 1), keep(2, 0), keep(3, 0), ROUND)
        self.assertEqual(last(*calls), [0, 0, 1])
        # Nothing can leave the cells: as overfull is the set with node 0, but this one lies within it.
        calls = (table(10, [0, 0, 1, 1], [0], [5, 5]), keep(4, 0), keep(5, 0), ROUND)
        self.assertEqual(last(*calls), [0, 0, 1, 2, 3])

    def test_against_all_sets(self):
        several = 0
        missing = 0
        for seed in range(600):
            picture = some_picture(seed, 4, 6, 4)
            answer, priced = picture.ask(ROUND, PRICES)
            if picture.told_rounding() is not None:
                self.assertEqual(answer[:2], [0, 1], seed)
                continue
            most, nodes = picture.told_set()
            self.assertEqual(answer, [0, 0] + nodes, seed)
            self.assertEqual(priced, [0, 0], seed)
            self.assertEqual(picture.ask(shows(nodes)), [[0, 1, most]], seed)
            missing += 1
            several += len(nodes) > 1
        self.assertGreater(missing, 150)
        self.assertGreater(several, 30)

    def test_large_tables(self):
        source = random.Random(3)
        missing = 0
        for picture in large_pictures() * 2:
            for number in source.sample(range(len(picture.truth)), 12):
                amount = picture.truth[number] // picture.base + source.choice([0, 0, 0, 1])
                if amount <= 1000000:
                    picture.kept[number] = amount
            answer = picture.ask(ROUND)[0]
            if answer[1] == 0:
                missing += 1
                by = picture.overfull(set(answer[2:]))
                self.assertGreater(by, 0)
                self.assertEqual(picture.ask(shows(answer[2:])), [[0, 1, by]])
                self.assertEqual(answer[2:], sorted(set(answer[2:])))
            else:
                self.assertTrue(picture.is_rounding(answer[3:]))
            picture.kept.clear()
        self.assertGreater(missing, 20)

    def test_far_too_much_kept(self):
        picture = large_pictures()[0]
        picture.kept[0] = 1000000
        answer = picture.ask(ROUND)[0]
        by = 1000000 - sum(picture.choices(node)[-1] for node in range(1, 8) if picture.rows[node] == 0)
        self.assertEqual(answer, [0, 0, 0])
        self.assertEqual(picture.ask(shows([0])), [[0, 1, by]])


class Shows(unittest.TestCase):
    def test_sets_that_show_it(self):
        self.assertEqual(last(ONE, keep(0, 3), shows([0])), [0, 1, 2])
        self.assertEqual(last(ONE, keep(1, 2), shows([1])), [0, 1, 1])

    def test_sets_that_dont(self):
        self.assertEqual(last(ONE, keep(0, 3), shows([1])), [0, 0, -3])
        self.assertEqual(last(ONE, keep(0, 3), shows([0, 1])), [0, 0, 0])
        self.assertEqual(last(ONE, keep(0, 1), keep(1, 1), shows([0])), [0, 0, 0])
        self.assertEqual(last(FLAT, shows([1, 4])), [0, 0, 1 - 1 + 1 - 2])

    def test_the_empty_set(self):
        self.assertEqual(last(ONE, shows([])), [0, 0, 0])
        self.assertEqual(last(ONE, keep(0, 3), shows([])), [0, 0, 0])

    def test_in_any_order(self):
        for nodes in itertools.permutations([0, 1, 4]):
            self.assertEqual(last(FLAT, shows(nodes)), [0, 0, 4 - 4 - 1 + 1 - 2])

    def test_a_node_twice(self):
        self.assertEqual(last(ONE, shows([0, 0])), [-3])
        self.assertEqual(last(FLAT, shows([5, 1, 2, 5])), [-3])

    def test_a_node_that_isnt_there(self):
        self.assertEqual(last(ONE, shows([2])), [-3])
        self.assertEqual(last(FLAT, shows([0, 6])), [-3])
        self.assertEqual(last(FLAT, shows([5])), [0, 0, -1])

    def test_sixteen_nodes(self):
        eight = table(1, [0] * 7 + [1], [0] + [0] * 4 + [1, 2, 5], list(range(24)))
        self.assertEqual(last(eight, shows(list(range(16)))), [0, 0, 0])
        self.assertEqual(last(eight, shows([15])), [0, 0, 0])

    def test_a_net_that_has_a_flow_is_never_shown_to_have_none(self):
        picture = some_picture(4, 3, 4)
        for size in range(picture.nodes + 1):
            for nodes in itertools.combinations(range(picture.nodes), size):
                answer = picture.ask(shows(nodes))[0]
                self.assertEqual(answer, [0, 0, picture.overfull(set(nodes))])

    def test_against_the_slow_look(self):
        for seed in range(200):
            picture = some_picture(seed, 8, 36, 5)
            source = random.Random(seed)
            nodes = source.sample(range(picture.nodes), source.randint(0, picture.nodes))
            by = picture.overfull(set(nodes))
            self.assertEqual(picture.ask(shows(nodes)), [[0, int(by > 0), by]], seed)

    def test_no_rounding_is_checked_where_there_is_none(self):
        self.assertEqual(last(ONE, keep(0, 3), check([3, 1], [0, 0])), [0, 0, 0])


if __name__ == "__main__":
    unittest.main()
