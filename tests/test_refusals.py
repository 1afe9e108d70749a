"""Every refusal of the calls 0 to 10: its number alone, the edges of the ranges, the one nearest to 0; promise 4."""

import unittest

from helper import ARCS, BIG, PRICES, ROUND, TRUTH, ask, check, distance, free, keep, last, shows, table, weights

FLAT = table(10, [0, 0, 0], [0, 0, 0], [4, 7, 12, 20])
MADE = (FLAT, weights(2, 3), keep(3, 1), keep(8, 2))
AMOUNTS = [4, 1, 3, 1, 0, 1, 2, 2, 2]
ASKED = (ARCS, ROUND, PRICES, TRUTH, distance(AMOUNTS), check(AMOUNTS, [0] * 6), shows([0, 3]), shows([5]))

ONE_TREE = [0, 0, 0]
FOUR = [4, 7, 12, 20]
OUTSIDE_AMOUNTS = ([1000000001], [-1000000001], [0] * 81, [0] * 160, [BIG] * 160, [0] * 8 + [-BIG])
OUTSIDE_NODES = ([-1], [16], [0, 1, 16], [0] * 17, [0] * 160, [BIG], [-BIG])

OUT_OF_RANGE = (
    [table(base, ONE_TREE, ONE_TREE, FOUR) for base in (0, -1, 101, BIG, -BIG)]
    + [table(10, rows, ONE_TREE, FOUR) for rows in ([], [0] * 9, [0] * 160, [0, 0, -1], [0, 0, 8], [0, BIG, 0], [-BIG])]
    + [table(10, ONE_TREE, columns, FOUR) for columns in ([], [0] * 9, [0] * 160, [0, 0, -1], [0, 8, 0], [BIG])]
    + [table(10, ONE_TREE, ONE_TREE, cells) for cells in (
        [4, 7, 12, -1], [4, 7, 1000001, 20], [0] * 37, [0] * 160, [BIG] * 4, [-BIG] * 4)]
    + [weights(*pair) for pair in ((-1, 0), (0, -1), (10, 0), (0, 10), (BIG, 1), (1, -BIG))]
    + [keep(*pair) for pair in ((-1, 0), (80, 0), (0, -1), (0, 1000001), (BIG, 0), (-BIG, 0), (0, BIG), (0, -BIG))]
    + [free(number) for number in (-1, 80, BIG, -BIG)]
    + [check(amounts, [0] * 6) for amounts in OUTSIDE_AMOUNTS]
    + [check(AMOUNTS, prices) for prices in OUTSIDE_AMOUNTS]
    + [shows(nodes) for nodes in OUTSIDE_NODES]
    + [distance(amounts) for amounts in OUTSIDE_AMOUNTS]
)

# What -2 is answered to without a table: within all ranges, some with a further refusal due behind it.
NEEDS_TABLE = [
    weights(0, 0), weights(9, 9), keep(0, 0), keep(79, 1000000), free(0), free(79), ARCS, ROUND, PRICES,
    check([], []), check([0] * 80, [0] * 80), check([-1000000000], [1000000000]),
    shows([]), shows([15]), shows([0, 0]), shows([15] * 16), TRUTH, distance([]), distance([0] * 80),
    distance([1000000000, -1000000000]),
]

NOT_THERE = [
    keep(9, 0), keep(79, 0), keep(10, 1000000), free(0), free(2), free(9), free(79),
    shows([6]), shows([15]), shows([0, 0]), shows([1, 2, 3, 1]), shows([5, 6]), shows([15] * 16),
]

NO_TREE = [
    table(10, [1], [0], [4]), table(10, [0], [7], [4]), table(10, [1, 0], [0], [4]), table(10, [0, 1], [0], [4]),
    table(10, [0], [0, 1], [4]), table(10, [0, 2, 0], [0], [4]), table(10, [0, 0, 2], [0], [4]),
    table(10, [0, 0, 7], [0, 0, 0], FOUR), table(10, [0, 2, 1], [0], [4]), table(10, [0, 0, 1, 2, 3, 4, 5, 7], [0], [4]),
    table(10, [2, 0, 0], [0, 0, 0], FOUR),
]

NOT_AS_MANY = [
    table(10, [0], [0], []), table(10, [0], [0], [4, 4]), table(10, ONE_TREE, ONE_TREE, FOUR[:3]),
    table(10, ONE_TREE, ONE_TREE, FOUR + [0]), table(10, [0] * 8, [0] * 8, [0] * 36), table(10, [0, 0, 1], [0], [4, 4]),
    table(10, [0], [0], [0] * 36),
    distance([]), distance(AMOUNTS[:8]), distance(AMOUNTS + [0]), distance([0] * 80),
]

EVERY = (
    [(call, -1) for call in OUT_OF_RANGE] + [(call, -3) for call in NOT_THERE]
    + [(call, -5) for call in NO_TREE] + [(call, -6) for call in NOT_AS_MANY]
)


class Refused(unittest.TestCase):
    def test_each_with_a_table_and_that_nothing_changes(self):
        before = ask(*MADE, *ASKED)[len(MADE):]
        for call, number in EVERY:
            found = ask(*MADE, call, *ASKED)[len(MADE):]
            self.assertEqual(found[0], [number], call)
            self.assertEqual(found[1:], before, call)

    def test_all_behind_one_another_change_nothing(self):
        before = ask(*MADE, *ASKED)[len(MADE):]
        for first in range(0, len(EVERY), 40):
            calls = [call for call, number in EVERY[first:first + 40]]
            self.assertEqual(ask(*MADE, *calls, *ASKED)[-len(ASKED):], before)

    def test_the_questions_tell_tables_apart(self):
        # Else the tests above would see nothing: each change is seen by what is asked.
        before = ask(*MADE, *ASKED)[len(MADE):]
        changes = (table(10, ONE_TREE, ONE_TREE, FOUR), weights(2, 2), weights(1, 3), keep(3, 0), keep(0, 4), free(3))
        for change in changes:
            self.assertNotEqual(ask(*MADE, change, *ASKED)[len(MADE) + 1:], before)

    def test_without_a_table(self):
        for call in OUT_OF_RANGE:
            self.assertEqual(ask(call, TRUTH), [[-1], [-2]], call)
        for call in NEEDS_TABLE:
            self.assertEqual(ask(call, TRUTH), [[-2], [-2]], call)
        for call in NO_TREE:
            self.assertEqual(ask(call, TRUTH), [[-5], [-2]], call)
        for call in NOT_AS_MANY[:7]:
            self.assertEqual(ask(call, TRUTH), [[-6], [-2]], call)

    def test_what_needs_a_table_has_one_behind_it(self):
        for call in NEEDS_TABLE:
            self.assertNotEqual(ask(call, FLAT, call)[2], [-2], call)


class Nearest(unittest.TestCase):
    def test_range_ahead_of_all(self):
        for call in (
            table(0, [1], [0], []), table(10, [1, 8], [0], []), table(10, [0, 1], [0], [-1]), table(10, [1], [0], [0] * 37),
            table(10, [], [1], []),
        ):
            self.assertEqual(last(call), [-1])
        self.assertEqual(last(keep(79, 1000001)), [-1])
        self.assertEqual(last(FLAT, keep(79, 1000001)), [-1])
        self.assertEqual(last(FLAT, keep(80, 0)), [-1])
        self.assertEqual(last(FLAT, free(80)), [-1])
        self.assertEqual(last(FLAT, shows([0, 0, 16])), [-1])
        self.assertEqual(last(FLAT, shows([6, -1])), [-1])
        self.assertEqual(last(FLAT, shows([0] * 17)), [-1])
        self.assertEqual(last(FLAT, distance([1000000001])), [-1])
        self.assertEqual(last(FLAT, distance([0] * 81)), [-1])
        self.assertEqual(last(shows([16])), [-1])
        self.assertEqual(last(check([0] * 81, [])), [-1])
        self.assertEqual(last(check([], [0] * 81)), [-1])
        self.assertEqual(last(distance([0] * 81)), [-1])

    def test_no_table_ahead_of_what_isnt_there(self):
        self.assertEqual(last(keep(79, 0)), [-2])
        self.assertEqual(last(free(79)), [-2])
        self.assertEqual(last(shows([3, 3])), [-2])
        self.assertEqual(last(distance([])), [-2])

    def test_no_tree_ahead_of_too_few_cells(self):
        self.assertEqual(last(table(10, [0, 1], [0], [])), [-5])
        self.assertEqual(last(table(10, [0], [3], [0] * 36)), [-5])


class Edges(unittest.TestCase):
    def test_base(self):
        self.assertEqual(last(table(1, [0], [0], [3])), [0, 2])
        self.assertEqual(last(table(100, [0], [0], [3])), [0, 2])

    def test_trees(self):
        self.assertEqual(last(table(1, [0] * 8, [0], [0] * 7)), [0, 15])
        self.assertEqual(last(table(1, [0], [0, 0, 1, 2, 3, 4, 5, 6], [1])), [0, 9])
        self.assertEqual(last(table(1, [0] * 8, [0, 0, 1, 2, 3, 4, 5, 6], [1] * 7)), [0, 22])

    def test_cells(self):
        self.assertEqual(ask(table(1, [0], [0, 0, 0], [0, 1000000]), TRUTH)[1], [0, 1000000, 0, 1000000, 0, 1000000])
        self.assertEqual(last(table(1, [0] * 7, [0] * 7, [1000000] * 36)), [0, 49])
        self.assertEqual(last(table(1, [0] * 7 + [1], [0] * 7 + [1], [0] * 36)), [0, 51])

    def test_weights(self):
        for pair in ((0, 0), (0, 9), (9, 0), (9, 9)):
            self.assertEqual(last(FLAT, weights(*pair)), [0])

    def test_keep_and_free(self):
        self.assertEqual(ask(FLAT, keep(0, 0), keep(0, 1000000), keep(8, 0), free(8), free(0))[1:], [[0]] * 5)
        self.assertEqual(ask(FLAT, keep(0, 0), free(0), free(0))[1:], [[0], [0], [-3]])

    def test_the_last_told_number_of_the_largest(self):
        largest = table(7, [0] * 7 + [1], [0] * 7 + [1], [5] * 36)
        self.assertEqual(ask(largest, keep(50, 1), keep(51, 1), free(50), free(51))[1:], [[0], [-3], [0], [-3]])

    def test_a_new_table_keeps_nothing(self):
        self.assertEqual(last(FLAT, keep(0, 1), FLAT, free(0)), [-3])

    def test_amounts_and_prices(self):
        self.assertEqual(last(FLAT, check([1000000000] * 80, [-1000000000] * 80)), [0, 0, 0])
        self.assertEqual(last(FLAT, distance([-1000000000] * 9)), [0, 90000000000 + 172, 0])
        self.assertEqual(last(FLAT, check([], [])), [0, 0, 0])

    def test_sets(self):
        largest = table(7, [0] * 7 + [1], [0] * 7 + [1], [5] * 36)
        self.assertEqual(last(largest, shows(list(range(16)))), [0, 0, 0])
        self.assertEqual(last(largest, shows([0, 15]))[0], 0)


if __name__ == "__main__":
    unittest.main()
