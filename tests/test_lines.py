"""The interface: one list in, one list back, counts and all; nothing changed and nothing kept."""

import contextlib
import io
import random
import unittest

from helper import (ARCS, FLOW, FLOWNONE, FLOWPRICES, PRICES, ROUND, SIZES, TRUTH, ask, check, cost, cube, cubecheck,
                    distance, flowcheck, flowshows, free, keep, large_net, large_pictures, net, shows, table, weights)
from sumsstay.census import answers

WHOLE = [
    0, 5, 1, 0, 1, 0, 1, 4,
    9,
    4,
    5,
    6,
    7, 2, 1, 1, 2, 0, 0,
    10, 2, 1, 1,
    1, 2, 3,
    5,
    2, 0, 3,
    5,
    6,
    8, 1, 0,
    3, 0,
    3, 0,
    10, 1, 1,
    11, 0, 0, 6,
    9,
    12, 10, 2, 1, 1, 2, 5, 5,
    13, 10, 2, 1, 1, 2, 5, 5, 2, 1, 1,
    15,
    14, 2, 2, 3, -3, 5, 0, 1, 0, 4, -2,
    15,
    16,
    17, 1, 3, 2, 0, -2,
    18,
    19, 1, 0,
    20, 1, 2,
    21,
    14, 2, 2, 3, -3, 0,
    15,
    18,
]
WHOLE_GIVEN = [
    2, 0, 2,
    3, 0, 4, 4,
    11, 0, 1, 0, 0, 1, -3, 0, 1, 0, 1, -3,
    5, 0, 1, 2, 1, 1,
    4, 0, 1, 0, 0,
    3, 0, 1, 1,
    3, 0, 2, 1,
    1, 0,
    5, 0, 1, 5, 1, 1,
    1, 0,
    3, 0, 0, 0,
    2, 0, 0,
    3, 0, 1, 2,
    1, 0,
    1, -3,
    1, -6,
    1, 0,
    3, 0, 6, 6,
    4, 0, 2, 0, 1,
    2, 0, 0,
    1, -2,
    2, 0, 1,
    4, 0, 1, -6, 3,
    4, 0, 1, 0, -2,
    3, 0, 1, 1,
    2, 0, 0,
    3, 0, 0, -1,
    5, 0, -4, 0, 1, -1,
    8, 0, 1, 1, 1, 0, 1, 2, 1,
    2, 0, 0,
    3, 0, 0, 0,
    4, 0, 1, 3, 0,
]


class OnlyRead(list):
    """A list that says so when it's changed."""

    def refuse(self, *rest):
        raise AssertionError("what was handed in is changed")

    append = extend = insert = pop = remove = clear = sort = reverse = refuse
    __setitem__ = __delitem__ = __iadd__ = __imul__ = refuse


class Lines(unittest.TestCase):
    def test_every_call_with_its_count(self):
        given = answers(WHOLE)
        self.assertEqual(given, WHOLE_GIVEN)
        self.assertIs(type(given), list)
        self.assertEqual({type(number) for number in given}, {int})

    def test_the_list_stays_as_it_was(self):
        handed = OnlyRead(WHOLE)
        self.assertEqual(answers(handed), WHOLE_GIVEN)
        self.assertEqual(handed, WHOLE)

    def test_twice_the_same(self):
        for turn in range(3):
            self.assertEqual(answers(WHOLE), WHOLE_GIVEN)

    def test_nothing_is_kept_from_one_time_to_the_next(self):
        answers(WHOLE)
        self.assertEqual(answers([9, 15, 21]), [1, -2, 1, -2, 8, 0, 0, 0, 0, 0, 0, 0, 0])
        first = answers(WHOLE)
        first.clear()
        self.assertEqual(answers(WHOLE), WHOLE_GIVEN)

    def test_nothing_is_printed(self):
        said = io.StringIO()
        with contextlib.redirect_stdout(said), contextlib.redirect_stderr(said):
            answers(WHOLE)
        self.assertEqual(said.getvalue(), "")

    def test_one_call(self):
        self.assertEqual(answers([4]), [1, -2])
        self.assertEqual(answers([0, 1, 1, 0, 1, 0, 1, 0]), [2, 0, 2])

    def test_lists_of_any_length_are_read_to_their_end(self):
        many = list(range(160))
        found = ask(table(5, many, many, many), check(many, many), shows(many), distance(many), table(5, [0], [0], [4]),
                    check(many, []), check([], many), shows(many), distance(many), TRUTH)
        self.assertEqual(found, [[-1]] * 4 + [[0, 2]] + [[-1]] * 4 + [[0, 4, 4]])
        found = ask(cube(5, (1, 1, 1), many), cubecheck(5, (1, 1, 1), many, many), net(1, many, many), net(1, [0], []),
                    flowcheck(many, []), flowcheck([], many), flowshows(many), cost(many), cubecheck(1, (1, 1, 1), [4], many),
                    SIZES)
        self.assertEqual(found, [[-1]] * 3 + [[0, 0]] + [[-1]] * 5 + [[0, 0, 0, 0, 0, 1, 1, 0]])

    def test_numbers_in_lists_are_not_read_as_calls(self):
        found = ask(table(5, [0], [0], [9]), check([9, 9, 9], [4, 4]), distance([5, 5]), shows([1]), TRUTH)
        self.assertEqual(found, [[0, 2], [0, 0, 0], [0, 32, 0], [0, 0, 0 + 1 - 2], [0, 9, 9]])


class Long(unittest.TestCase):
    def test_sixty_calls_on_the_largest_tables(self):
        for picture in large_pictures()[:8]:
            size = len(picture.truth)
            made = table(picture.base, picture.rows, picture.columns, picture.cells)
            found = ask(made, *[ROUND] * 29, *[PRICES] * 30)
            self.assertEqual(len(found), 60)
            self.assertEqual(found[0], [0, size])
            self.assertEqual(found[1:30], [found[1]] * 29)
            self.assertEqual(len(found[1]), 3 + size)
            self.assertEqual(found[30:], [found[30]] * 30)
            self.assertEqual(len(found[30]), 2 + picture.nodes)

    def test_sixty_calls_on_the_largest_nets(self):
        for seed in range(8):
            picture = large_net(seed)
            found = ask(picture.call(), *[FLOW] * 20, *[FLOWPRICES] * 20, *[FLOWNONE] * 19)
            self.assertEqual(found[0], [0, 30])
            self.assertEqual(found[1:], [found[1]] * 20 + [found[21]] * 20 + [found[41]] * 19)
            again = ask(*[picture.call(), FLOW] * 30)
            self.assertEqual(again, found[:2] * 30)

    def test_sixty_largest_tables_behind_one_another(self):
        picture = large_pictures()[0]
        made = table(picture.base, picture.rows, picture.columns, picture.cells)
        self.assertEqual(ask(*[made] * 60), [[0, 51]] * 60)

    def test_sixty_of_the_longest_lists(self):
        longest = list(range(160))
        handed = table(1, longest, longest, longest) * 20 + check(longest, longest) * 20 + distance([0] * 40) * 20
        self.assertLessEqual(len(handed), 17000)
        self.assertEqual(answers(handed), [1, -1] * 40 + [1, -2] * 20)

    def test_a_line_is_as_its_calls_one_by_one(self):
        # What a line has answered to a call isn't changed by the calls behind it.
        source = random.Random(9)
        picture = large_pictures()[1]
        calls = [table(picture.base, picture.rows, picture.columns, picture.cells)]
        while len(calls) < 60:
            number = source.randrange(55)
            amount = picture.truth[number % 51] // picture.base
            calls.append(source.choice([
                keep(number, amount), free(number), weights(source.randint(0, 9), source.randint(0, 9)), ROUND, PRICES,
                ARCS, TRUTH, shows(source.sample(range(16), 3)), distance(picture.truth), check(picture.truth, [0] * 16),
            ]))
        whole = ask(*calls)
        for end in range(1, 60, 7):
            self.assertEqual(ask(*calls[:end]), whole[:end])


if __name__ == "__main__":
    unittest.main()
