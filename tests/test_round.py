"""The calls round_of, prices, check and distance; promises 1 and 2."""

import random
import unittest

from helper import (ARCS, PRICES, ROUND, TRUTH, Picture, ask, check, distance, keep, large_pictures, last, some_picture,
                    table, weights)

FLAT = table(10, [0, 0, 0], [0, 0, 0], [4, 7, 12, 20])
FLAT_TOLD = [4, 1, 3, 0, 1, 1, 2, 1, 3]
FLAT_PRICES = [0, 0, 0, -2, 0, 0]


class Round(unittest.TestCase):
    def test_ordinary(self):
        self.assertEqual(last(FLAT, ROUND), [0, 1, 24] + FLAT_TOLD)
        self.assertEqual(last(table(5, [0], [0], [4]), ROUND), [0, 1, 2, 1, 1])

    def test_sums_may_weigh_more_than_cells(self):
        # Alone each cell would go down; their sum goes up, as soon as it weighs enough.
        self.assertEqual(last(table(10, [0], [0, 0, 0], [4, 4]), weights(9, 1), ROUND), [0, 1, 88, 0, 0, 0, 0, 0])
        self.assertEqual(last(table(10, [0], [0, 0, 0], [4, 4]), weights(1, 9), ROUND), [0, 1, 118, 1, 0, 1, 0, 1])

    def test_as_near_the_first_as_a_row(self):
        # Without weights every rounding is as near: the least sum first, then the least cells.
        self.assertEqual(last(table(10, [0], [0, 0, 0, 0], [5, 5, 5]), weights(0, 0), ROUND),
                         [0, 1, 0, 1, 0, 0, 1, 0, 0, 1])

    def test_halves_go_down_where_they_may(self):
        self.assertEqual(last(table(4, [0], [0], [6]), ROUND), [0, 1, 4, 1, 1])

    def test_base_1_tells_the_truth(self):
        for picture in [some_picture(seed, 8, 36) for seed in range(30)]:
            whole = Picture(1, picture.rows, picture.columns, picture.cells)
            self.assertEqual(whole.ask(ROUND)[0], [0, 1, 0] + whole.truth)

    def test_multiples_stay(self):
        self.assertEqual(last(table(100, [0, 0, 0], [0], [1000000, 200]), ROUND),
                         [0, 1, 0, 10002, 10000, 2, 10000, 2])

    def test_against_all_roundings(self):
        for seed in range(400):
            picture = some_picture(seed, 5, 6, 2)
            told = picture.told_rounding()
            answer = picture.ask(ROUND)[0]
            if told is None:
                self.assertEqual(answer[:2], [0, 0], seed)
            else:
                self.assertEqual(answer, [0, 1, told[0]] + told[1], seed)

    def test_against_all_roundings_of_nine_cells(self):
        for seed in range(40):
            source = random.Random(seed)
            cells = [source.randint(0, 30) for k in range(9)]
            trees = source.choice([([0, 0, 0, 0], [0, 0, 0, 0]), ([0, 0, 0, 1, 1], [0, 0, 1, 1, 0])])
            picture = Picture(10, trees[0], trees[1], cells, source.randint(0, 1), source.randint(0, 2))
            told = picture.told_rounding()
            self.assertEqual(picture.ask(ROUND)[0], [0, 1, told[0]] + told[1], seed)

    def test_nothing_kept_always_has_a_rounding(self):
        for seed in range(300):
            picture = some_picture(1000 + seed, 8, 36)
            self.assertRounding(picture)

    def test_large_tables(self):
        for picture in large_pictures():
            self.assertRounding(picture)

    def test_base_100_and_multiples_beside_others(self):
        source = random.Random(5)
        for turn in range(60):
            cells = [source.choice([0, 100, 700, source.randint(0, 1000000)]) for k in range(36)]
            self.assertRounding(Picture(100, [0, 0, 0, 0, 0, 0, 0, 1], [0, 0, 1, 1, 1, 1, 1, 1], cells))

    def assertRounding(self, picture):
        """It has one that adds up, is proved nearest, and has none as near ahead of it."""
        rounded, priced = picture.ask(ROUND, PRICES)
        self.assertEqual(rounded[:2], [0, 1])
        amounts, prices = rounded[3:], priced[2:]
        self.assertTrue(picture.is_rounding(amounts))
        self.assertEqual(rounded[2], picture.far(amounts))
        self.assertTrue(picture.proves(amounts, prices))
        self.assertFalse(picture.lesser_row_as_cheap(amounts, prices))
        self.assertEqual(picture.ask(check(amounts, prices)), [[0, 1, 1]])


class Prices(unittest.TestCase):
    def test_ordinary(self):
        self.assertEqual(last(FLAT, PRICES), [0, 1] + FLAT_PRICES)
        self.assertEqual(last(table(5, [0], [0], [4]), PRICES), [0, 1, 0, 0])

    def test_none_without_a_rounding(self):
        self.assertEqual(last(table(5, [0], [0], [4]), keep(0, 3), PRICES), [0, 0])

    def test_what_is_kept_costs_nothing(self):
        self.assertEqual(last(table(5, [0], [0], [4]), keep(0, 3), keep(1, 3), PRICES), [0, 1, 0, 0])

    def test_against_all_ways_along_rests(self):
        below = 0
        for seed in range(500):
            picture = some_picture(seed, 5, 6, 1)
            told = picture.told_rounding()
            answer = picture.ask(PRICES)[0]
            if told is None:
                self.assertEqual(answer, [0, 0], seed)
            else:
                self.assertEqual(answer, [0, 1] + picture.told_prices(told[1]), seed)
                self.assertEqual(picture.ask(check(told[1], answer[2:])), [[0, 1, 1]], seed)
                below += min(answer[2:]) < 0
        self.assertGreater(below, 40)


class Check(unittest.TestCase):
    def test_ordinary(self):
        self.assertEqual(ask(FLAT, check(FLAT_TOLD, FLAT_PRICES))[1], [0, 1, 1])

    def test_prices_moved_alike_prove_as_well(self):
        for by in (-999999998, 1, 1000000000):
            self.assertEqual(last(FLAT, check(FLAT_TOLD, [price + by for price in FLAT_PRICES])), [0, 1, 1])

    def test_prices_that_prove_nothing(self):
        self.assertEqual(last(FLAT, check(FLAT_TOLD, [0, 0, 0, 0, 0, 0])), [0, 1, 0])
        self.assertEqual(last(FLAT, check(FLAT_TOLD, [1000000000] + FLAT_PRICES[1:])), [0, 1, 0])

    def test_a_rounding_that_is_not_nearest(self):
        self.assertEqual(last(FLAT, check([4, 1, 3, 1, 0, 1, 2, 2, 2], FLAT_PRICES)), [0, 1, 0])

    def test_prices_not_as_many_as_nodes(self):
        for prices in ([], FLAT_PRICES[:5], FLAT_PRICES + [0], [0] * 80):
            self.assertEqual(last(FLAT, check(FLAT_TOLD, prices)), [0, 1, 0])

    def test_amounts_not_as_many_as_arcs(self):
        for amounts in ([], FLAT_TOLD[:8], FLAT_TOLD + [0], FLAT_TOLD * 8):
            self.assertEqual(last(FLAT, check(amounts, FLAT_PRICES)), [0, 0, 0])

    def test_amounts_that_are_no_rounding(self):
        # Each within its bounds, but not adding up; adding up, but not within; neither.
        for amounts in ([5, 1, 3, 0, 1, 1, 2, 1, 3], [4, 1, 3, -1, 2, 1, 2, 0, 4], [0] * 9, [1000000000] * 9):
            self.assertEqual(last(FLAT, check(amounts, FLAT_PRICES)), [0, 0, 0])

    def test_each_arc_is_looked_at(self):
        for k in range(9):
            for by in (-1, 1):
                amounts = list(FLAT_TOLD)
                amounts[k] += by
                self.assertEqual(last(FLAT, check(amounts, FLAT_PRICES)), [0, 0, 0])

    def test_both_sides_of_a_proof(self):
        # One cell of 4 to base 5: both arcs cost -3; of 1: both cost 3.
        high, low = table(5, [0], [0], [4]), table(5, [0], [0], [1])
        for apart, proves in ((-4, 0), (-3, 1), (0, 1), (3, 1), (4, 0)):
            self.assertEqual(last(high, check([1, 1], [apart, 0])), [0, 1, proves])
            self.assertEqual(last(low, check([0, 0], [apart, 0])), [0, 1, proves])
            self.assertEqual(last(high, check([0, 0], [apart, 0])), [0, 1, 0])
            self.assertEqual(last(low, check([1, 1], [apart, 0])), [0, 1, 0])

    def test_kept_amounts_count(self):
        self.assertEqual(last(table(5, [0], [0], [4]), keep(0, 0), check([1, 1], [0, 0])), [0, 0, 0])
        self.assertEqual(last(table(5, [0], [0], [4]), keep(0, 3), keep(1, 3), check([3, 3], [5, 9])), [0, 1, 1])
        self.assertEqual(last(table(5, [0], [0], [4]), keep(0, 3), keep(1, 3), check([1, 1], [0, 0])), [0, 0, 0])

    def test_accepted_prices_never_prove_too_much(self):
        accepted = [0, 0]
        for seed in range(200):
            picture = some_picture(seed, 4, 5, 1)
            told = picture.told_rounding()
            if told is None:
                continue
            source = random.Random(seed)
            prices = picture.told_prices(told[1])
            moved = [price + source.choice([0, 0, 0, -1, 1, 5]) for price in prices]
            for amounts in picture.roundings():
                for tried in (prices, moved):
                    answer = picture.ask(check(amounts, tried))[0]
                    self.assertEqual(answer, [0, 1, int(picture.proves(amounts, tried))], seed)
                    if answer[2]:
                        self.assertEqual(picture.far(amounts), told[0], seed)
                    accepted[answer[2]] += 1
        self.assertGreater(min(accepted), 100)


class Distance(unittest.TestCase):
    def test_of_the_told_rounding(self):
        self.assertEqual(ask(FLAT, distance(FLAT_TOLD))[1], [0, 24, 1])

    def test_of_another_rounding(self):
        self.assertEqual(last(FLAT, distance([4, 1, 3, 1, 0, 1, 2, 2, 2])), [0, 32, 1])

    def test_of_amounts_that_are_none(self):
        self.assertEqual(last(FLAT, distance([0] * 9)), [0, 172, 0])
        self.assertEqual(last(FLAT, distance([-1] * 9)), [0, 262, 0])
        self.assertEqual(last(table(100, [0], [0], [7]), weights(9, 9), distance([1000000000, -1000000000])),
                         [0, 1800000000000, 0])

    def test_weights_count(self):
        told = [4, 1, 3, 0, 1, 1, 2, 1, 3]
        self.assertEqual(last(FLAT, weights(1, 0), distance(told)), [0, 9, 1])
        self.assertEqual(last(FLAT, weights(0, 1), distance(told)), [0, 15, 1])
        self.assertEqual(last(FLAT, weights(2, 9), distance(told)), [0, 153, 1])
        self.assertEqual(last(FLAT, weights(0, 0), distance([0] * 9)), [0, 0, 0])

    def test_what_is_kept_is_as_far_as_it_is(self):
        kept = (table(5, [0], [0], [4]), keep(0, 3), keep(1, 3))
        self.assertEqual(last(*kept, distance([3, 3])), [0, 22, 1])
        self.assertEqual(last(*kept, distance([1, 1])), [0, 2, 0])
        self.assertEqual(last(*kept, ROUND), [0, 1, 22, 3, 3])

    def test_too_few_and_too_many(self):
        for amounts in ([], FLAT_TOLD[:8], FLAT_TOLD + [0], [0] * 80):
            self.assertEqual(last(FLAT, distance(amounts)), [-6])

    def test_against_the_slow_look(self):
        for seed in range(150):
            picture = some_picture(seed, 8, 36, 1)
            source = random.Random(seed)
            amounts = [true // picture.base + source.choice([0, 0, 1]) for true in picture.truth]
            expected = [0, picture.far(amounts), int(picture.is_rounding(amounts))]
            self.assertEqual(picture.ask(distance(amounts)), [expected])

    def test_asking_changes_nothing(self):
        asked = [ARCS, TRUTH, ROUND, PRICES, distance(FLAT_TOLD), check(FLAT_TOLD, FLAT_PRICES)]
        found = ask(FLAT, *asked, *asked)
        self.assertEqual(found[1:7], found[7:])


if __name__ == "__main__":
    unittest.main()
