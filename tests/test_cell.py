"""The call cell: one cell of the table is another now, and what's kept and weighed stays."""

import random
import unittest

from helper import ARCS, PRICES, ROUND, SIZES, TRUTH, Picture, ask, cell, free, keep, last, leaves, some_picture, table
from helper import weights

FLAT = table(10, [0, 0, 0], [0, 0, 0], [4, 7, 12, 20])


class Cell(unittest.TestCase):
    def test_ordinary(self):
        self.assertEqual(ask(FLAT, cell(1, 0, 13), TRUTH)[1:], [[0], [0, 44, 11, 33, 4, 7, 13, 20, 17, 27]])

    def test_each_place(self):
        for place in range(4):
            cells = [4, 7, 12, 20]
            cells[place] = 91
            made = table(10, [0, 0, 0], [0, 0, 0], cells)
            self.assertEqual(ask(FLAT, cell(place // 2, place % 2, 91), TRUTH, ARCS, ROUND, PRICES)[2:],
                             ask(made, TRUTH, ARCS, ROUND, PRICES)[1:])

    def test_row_place_and_column_place_are_told_apart(self):
        wide = table(1, [0, 0, 0], [0, 0, 0, 0], [1, 2, 3, 4, 5, 6])
        self.assertEqual(last(wide, cell(1, 0, 9), TRUTH)[4:10], [1, 2, 3, 9, 5, 6])
        self.assertEqual(last(wide, cell(0, 2, 9), TRUTH)[4:10], [1, 2, 9, 4, 5, 6])
        self.assertEqual(last(wide, cell(1, 2, 9), TRUTH)[4:10], [1, 2, 3, 4, 5, 9])
        self.assertEqual(last(wide, cell(2, 0, 9)), [-3])

    def test_places_are_among_the_leaves(self):
        # The rows' leaves are 2, 3 and 4: node 1 has two beneath it.
        deep = table(1, [0, 0, 0, 1, 1], [0], [100, 20, 3])
        self.assertEqual(last(deep, cell(0, 0, 7), TRUTH), [0, 30, 23, 7, 20, 3, 7, 20, 3])
        self.assertEqual(last(deep, cell(2, 0, 7), TRUTH), [0, 127, 27, 100, 20, 7, 100, 20, 7])
        self.assertEqual(last(deep, cell(3, 0, 7)), [-3])

    def test_edges_of_the_number(self):
        self.assertEqual(ask(FLAT, cell(0, 0, 0), TRUTH)[1:], [[0], [0, 39, 7, 32, 0, 7, 12, 20, 12, 27]])
        self.assertEqual(last(FLAT, cell(1, 1, 1000000), TRUTH)[1], 1000023)

    def test_the_largest_table(self):
        largest = table(7, [0] * 7, [0] * 7, [5] * 36)
        self.assertEqual(ask(largest, cell(5, 5, 6), cell(6, 5, 6), cell(5, 6, 6), cell(35, 35, 6))[1:],
                         [[0], [-3], [-3], [-3]])
        longest = table(7, [0] * 8, [0], [5] * 7)
        self.assertEqual(ask(longest, cell(6, 0, 6), cell(7, 0, 6), cell(0, 1, 6))[1:], [[0], [-3], [-3]])

    def test_kept_amounts_and_weights_stay(self):
        one = table(5, [0], [0], [4])
        found = ask(one, weights(2, 7), keep(1, 3), cell(0, 0, 6), ARCS, SIZES, free(1), ARCS)
        self.assertEqual(found[3:], [
            [0], [0, 1, 0, 1, 2, 21, 0, 1, 3, 3, 0], [0, 1, 1, 1, 1, 0, 0, 0],
            [0], [0, 1, 0, 1, 2, 21, 0, 1, 1, 2, 6],
        ])

    def test_a_rounding_may_come_and_go(self):
        one = table(5, [0], [0], [4])
        found = ask(one, keep(0, 3), ROUND, cell(0, 0, 14), ROUND, cell(0, 0, 4), ROUND)
        self.assertEqual(found[2:], [[0, 0, 0], [0], [0, 1, 2, 3, 3], [0], [0, 0, 0]])

    def test_later_cells_come_instead_of_earlier_ones(self):
        self.assertEqual(last(FLAT, cell(0, 0, 8), cell(0, 0, 5), cell(0, 1, 6), TRUTH),
                         [0, 43, 11, 32, 5, 6, 12, 20, 17, 26])

    def test_a_new_table_has_its_own_cells(self):
        self.assertEqual(last(FLAT, cell(0, 0, 8), FLAT, TRUTH), last(FLAT, TRUTH))

    def test_against_a_table_made_so(self):
        for seed in range(200):
            before = some_picture(seed, 6, 12, 2)
            source = random.Random(seed)
            height, width = len(leaves(before.rows)), len(leaves(before.columns))
            cells, calls = list(before.cells), []
            for turn in range(source.randint(1, 4)):
                row, column, number = source.randrange(height), source.randrange(width), source.randint(0, 60)
                cells[row * width + column] = number
                calls.append(cell(row, column, number))
            behind = Picture(before.base, before.rows, before.columns, cells,
                             before.cell_weight, before.sum_weight, before.kept)
            asked = [TRUTH, ARCS, ROUND, PRICES, SIZES]
            self.assertEqual(before.ask(*calls, *asked)[len(calls):], behind.ask(*asked), seed)
            self.assertEqual(behind.ask(TRUTH), [[0] + behind.truth], seed)


if __name__ == "__main__":
    unittest.main()
