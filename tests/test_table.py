"""The calls table, weights, truth and arcs: what's told, its order, and the table's net."""

import unittest

from helper import ARCS, TRUTH, Picture, ask, keep, large_pictures, last, some_picture, table, weights


def arcs_of(*calls):
    answer = last(*calls, ARCS)
    return answer[0], [tuple(answer[k:k + 5]) for k in range(1, len(answer), 5)]


class Told(unittest.TestCase):
    def test_one_cell(self):
        self.assertEqual(ask(table(5, [0], [0], [4]), TRUTH), [[0, 2], [0, 4, 4]])

    def test_flat_trees(self):
        first, truth = ask(table(10, [0, 0, 0], [0, 0, 0], [4, 7, 12, 20]), TRUTH)
        self.assertEqual(first, [0, 9])
        self.assertEqual(truth, [0, 43, 11, 32, 4, 7, 12, 20, 16, 27])

    def test_rows_of_one_node(self):
        first, truth = ask(table(3, [0], [0, 0, 0, 0], [1, 2, 4]), TRUTH)
        self.assertEqual(first, [0, 7])
        self.assertEqual(truth, [0, 7, 1, 2, 4, 1, 2, 4])

    def test_columns_of_one_node(self):
        first, truth = ask(table(3, [0, 0, 0, 0], [0], [1, 2, 4]), TRUTH)
        self.assertEqual(first, [0, 7])
        self.assertEqual(truth, [0, 7, 1, 2, 4, 1, 2, 4])

    def test_chains_have_one_leaf(self):
        first, truth = ask(table(3, [0, 0, 1, 2], [0, 0, 1], [8]), TRUTH)
        self.assertEqual(first, [0, 7])
        self.assertEqual(truth, [0] + [8] * 7)

    def test_deep_trees(self):
        first, truth = ask(table(1, [0, 0, 0, 1, 1], [0, 0, 1, 1, 0], list(range(1, 10))), TRUTH)
        self.assertEqual(first, [0, 18])
        self.assertEqual(truth, [0, 45, 39, 6, 15, 24] + list(range(1, 10)) + [27, 12, 15, 18])

    def test_leaves_are_in_order_by_number_not_by_place_in_the_tree(self):
        # Leaf 2 stands right beneath 0, the leaves 3 and 4 beneath 1, which comes ahead of 2.
        truth = last(table(1, [0, 0, 0, 1, 1], [0], [100, 20, 3]), TRUTH)
        self.assertEqual(truth, [0, 123, 23, 100, 20, 3, 100, 20, 3])

    def test_a_new_table_comes_instead_of_the_old_one(self):
        found = ask(table(5, [0], [0], [4]), weights(2, 3), keep(1, 9), table(5, [0], [0], [4]), ARCS)
        self.assertEqual(found[-1], [0, 1, 0, 0, 1, -3, 0, 1, 0, 1, -3])

    def test_against_the_slow_look(self):
        for picture in [some_picture(seed, 8, 36) for seed in range(150)] + large_pictures():
            first, truth = ask(table(picture.base, picture.rows, picture.columns, picture.cells), TRUTH)
            self.assertEqual(first, [0, len(picture.truth)])
            self.assertEqual(truth, [0] + picture.truth)


class Arcs(unittest.TestCase):
    def test_the_documents_example(self):
        # Base 5, the cell 4, weight 1: 1 less 4.
        self.assertEqual(last(table(5, [0], [0], [4]), ARCS), [0, 1, 0, 0, 1, -3, 0, 1, 0, 1, -3])

    def test_flat_trees(self):
        self.assertEqual(arcs_of(table(10, [0, 0, 0], [0, 0, 0], [4, 7, 12, 20])), (0, [
            (3, 0, 4, 5, 4),
            (0, 1, 1, 2, 8),
            (0, 2, 3, 4, 6),
            (1, 4, 0, 1, 2),
            (1, 5, 0, 1, -4),
            (2, 4, 1, 2, 6),
            (2, 5, 2, 2, 0),
            (4, 3, 1, 2, -2),
            (5, 3, 2, 3, -4),
        ]))

    def test_deep_trees(self):
        arcs = arcs_of(table(1, [0, 0, 0, 1, 1], [0, 0, 1, 1, 0], list(range(1, 10))))[1]
        ends = [arc[:2] for arc in arcs]
        self.assertEqual(ends, [
            (5, 0),
            (0, 1), (0, 2), (1, 3), (1, 4),
            (2, 7), (2, 8), (2, 9), (3, 7), (3, 8), (3, 9), (4, 7), (4, 8), (4, 9),
            (6, 5), (7, 6), (8, 6), (9, 5),
        ])

    def test_rows_of_one_node(self):
        ends = [arc[:2] for arc in arcs_of(table(3, [0], [0, 0, 1], [4]))[1]]
        self.assertEqual(ends, [(1, 0), (0, 3), (2, 1), (3, 2)])

    def test_columns_of_one_node(self):
        ends = [arc[:2] for arc in arcs_of(table(3, [0, 0, 0], [0], [4, 5]))[1]]
        self.assertEqual(ends, [(3, 0), (0, 1), (0, 2), (1, 3), (2, 3)])

    def test_weights_of_cells_and_of_sums(self):
        self.assertEqual(last(table(5, [0], [0, 0], [4]), weights(2, 7), ARCS),
                         [0, 1, 0, 0, 1, -21, 0, 2, 0, 1, -6, 2, 1, 0, 1, -21])
        self.assertEqual(last(table(5, [0], [0], [4]), weights(0, 9), ARCS), [0, 1, 0, 0, 1, -27, 0, 1, 0, 1, 0])
        self.assertEqual(last(table(5, [0], [0], [4]), weights(9, 0), ARCS), [0, 1, 0, 0, 1, 0, 0, 1, 0, 1, -27])

    def test_later_weights_come_instead_of_earlier_ones(self):
        self.assertEqual(last(table(5, [0], [0], [4]), weights(9, 9), weights(1, 2), ARCS),
                         [0, 1, 0, 0, 1, -6, 0, 1, 0, 1, -3])

    def test_halfway_between_costs_nothing(self):
        self.assertEqual(last(table(4, [0], [0], [6]), ARCS), [0, 1, 0, 1, 2, 0, 0, 1, 1, 2, 0])

    def test_multiples_have_one_amount(self):
        self.assertEqual(last(table(100, [0], [0], [300]), ARCS), [0, 1, 0, 3, 3, 0, 0, 1, 3, 3, 0])
        self.assertEqual(last(table(1, [0], [0], [299]), ARCS), [0, 1, 0, 299, 299, 0, 0, 1, 299, 299, 0])
        self.assertEqual(last(table(7, [0], [0], [0]), ARCS), [0, 1, 0, 0, 0, 0, 0, 1, 0, 0, 0])

    def test_what_is_kept_has_one_amount_and_no_price(self):
        self.assertEqual(last(table(5, [0], [0], [4]), keep(1, 1), ARCS), [0, 1, 0, 0, 1, -3, 0, 1, 1, 1, 0])
        self.assertEqual(last(table(5, [0], [0], [4]), keep(0, 77), ARCS), [0, 1, 0, 77, 77, 0, 0, 1, 0, 1, -3])

    def test_against_the_slow_look(self):
        pictures = [some_picture(seed, 8, 36, 4) for seed in range(150)] + large_pictures()
        for picture in pictures:
            answer = picture.ask(ARCS)[0]
            self.assertEqual(answer, [0] + [number for arc in picture.arcs() for number in arc])

    def test_the_pictures_are_told_what_is_meant(self):
        # The slow look by itself, by hand, so that it isn't wrong in the same way.
        picture = Picture(10, [0, 0, 0], [0, 0, 0], [4, 7, 12, 20])
        self.assertEqual(picture.truth, [43, 11, 32, 4, 7, 12, 20, 16, 27])
        self.assertEqual(picture.told_rounding(), (24, [4, 1, 3, 0, 1, 1, 2, 1, 3]))


if __name__ == "__main__":
    unittest.main()
