"""Lists of 60 calls, on tables, nets and boxes mixed, against a slow line that goes by the document's words."""

import copy
import random
import unittest

from helper import BIG, BoxPicture, NetPicture, Picture, ask, leaves, some_box, some_net, some_picture
from sumsstay.census import answers

CELL = (0, 1000000)
AMOUNT = (-1000000000, 1000000000)
PLACE = (0, 35)

# By the call's number: the ranges of its numbers; then of each of its lists the lengths, and the range of its numbers.
RANGES = {
    0: ([(1, 100)], [((1, 8), (0, 7)), ((1, 8), (0, 7)), ((0, 36), CELL)]),
    1: ([(0, 9), (0, 9)], []),
    2: ([(0, 79), CELL], []),
    3: ([(0, 79)], []),
    4: ([], []),
    5: ([], []),
    6: ([], []),
    7: ([], [((0, 80), AMOUNT), ((0, 80), AMOUNT)]),
    8: ([], [((0, 16), (0, 15))]),
    9: ([], []),
    10: ([], [((0, 80), AMOUNT)]),
    11: ([PLACE, PLACE, CELL], []),
    12: ([(1, 100), (1, 3), (1, 3), (1, 3)], [((0, 12), CELL)]),
    13: ([(1, 100), (1, 3), (1, 3), (1, 3)], [((0, 12), CELL), ((0, 12), CELL)]),
    14: ([(1, 12)], [((0, 12), (-1000, 1000)), ((0, 150), (-1000, 1000))]),
    15: ([], []),
    16: ([], []),
    17: ([], [((0, 80), AMOUNT), ((0, 80), AMOUNT)]),
    18: ([], []),
    19: ([], [((0, 16), (0, 15))]),
    20: ([], [((0, 80), AMOUNT)]),
    21: ([], []),
}


def lies(number, span):
    return span[0] <= number <= span[1]


def fives(numbers):
    return [tuple(numbers[k:k + 5]) for k in range(0, len(numbers), 5)]


def is_tree(above):
    return above[0] == 0 and all(above[node] < node for node in range(1, len(above)))


class SlowLine:
    """A line that gathers all refusals that are due, and answers the nearest; or looks slowly."""

    def __init__(self):
        self.table = None
        self.net = None

    def answer(self, number, numbers, lists):
        if not self.in_range(number, numbers, lists):
            return [-1]
        if (1 <= number <= 11 and self.table is None) or (15 <= number <= 20 and self.net is None):
            return [-2]
        due = self.due(number, numbers, lists)
        if due:
            return [max(due)]
        return [0] + self.told(number, numbers, lists)

    def in_range(self, number, numbers, lists):
        spans, told_lists = RANGES[number]
        good = all(lies(one, span) for one, span in zip(numbers, spans))
        for given, (lengths, span) in zip(lists, told_lists):
            good = good and lies(len(given), lengths) and all(lies(one, span) for one in given)
        if number == 14:
            good = good and len(lists[1]) % 5 == 0
            good = good and all(lies(a[0], (0, 11)) and lies(a[1], (0, 11)) and a[2] <= a[3] for a in fives(lists[1]))
        return good

    def due(self, number, numbers, lists):
        due = []
        if number == 0:
            trees = is_tree(lists[0]) and is_tree(lists[1])
            due += [] if trees else [-5]
            due += [-6] if trees and len(lists[2]) != len(leaves(lists[0])) * len(leaves(lists[1])) else []
        if number == 2:
            due += [-3] if numbers[0] >= len(self.table.truth) else []
        if number == 3:
            due += [-3] if numbers[0] not in self.table.kept else []
        if number in (8, 19):
            nodes = (self.table if number == 8 else self.net).nodes
            due += [-3] if len(set(lists[0])) != len(lists[0]) or any(node >= nodes for node in lists[0]) else []
        if number == 10:
            due += [-6] if len(lists[0]) != len(self.table.truth) else []
        if number == 11:
            sizes = (len(leaves(self.table.rows)), len(leaves(self.table.columns)))
            due += [-3] if numbers[0] >= sizes[0] or numbers[1] >= sizes[1] else []
        if number in (12, 13):
            due += [-6] if numbers[1] * numbers[2] * numbers[3] != len(lists[0]) else []
        if number == 14:
            due += [-3] if any(max(arc[:2]) >= numbers[0] for arc in fives(lists[1])) else []
            due += [-6] if len(lists[0]) != numbers[0] else []
            due += [-7] if sum(lists[0]) != 0 else []
        if number == 20:
            due += [-6] if len(lists[0]) != len(self.net.arcs()) else []
        return due

    def told(self, number, numbers, lists):
        if number <= 11:
            return self.told_of_table(number, numbers, lists)
        if number <= 13:
            return self.told_of_box(number, numbers, lists)
        if number <= 20:
            return self.told_of_net(number, numbers, lists)
        sizes = [0] * 7
        if self.table is not None:
            sizes[:4] = [1, len(self.table.rows), len(self.table.columns), len(self.table.kept)]
        if self.net is not None:
            sizes[4:] = [1, self.net.nodes, len(self.net.arcs())]
        return sizes

    def change_table(self, number, numbers, lists):
        if number == 0:
            self.table = Picture(numbers[0], *lists)
            return [len(self.table.truth)]
        if number == 1:
            self.table.cell_weight, self.table.sum_weight = numbers
        if number == 2:
            self.table.kept[numbers[0]] = numbers[1]
        if number == 3:
            del self.table.kept[numbers[0]]
        if number == 11:
            old = self.table
            cells = list(old.cells)
            cells[numbers[0] * len(leaves(old.columns)) + numbers[1]] = numbers[2]
            self.table = Picture(old.base, old.rows, old.columns, cells, old.cell_weight, old.sum_weight, old.kept)
        return []

    def told_of_table(self, number, numbers, lists):
        if number in (0, 1, 2, 3, 11):
            return self.change_table(number, numbers, lists)
        table = self.table
        if number == 4:
            return [one for arc in table.arcs() for one in arc]
        if number in (5, 6):
            best = table.told_rounding()
            if best is None:
                return [0] + (table.told_set()[1] if number == 5 else [])
            return [1, best[0]] + best[1] if number == 5 else [1] + table.told_prices(best[1])
        if number == 7:
            right = table.is_rounding(lists[0])
            return [int(right), int(right and len(lists[1]) == table.nodes and table.proves(lists[0], lists[1]))]
        if number == 8:
            by = table.overfull(set(lists[0]))
            return [int(by > 0), by]
        if number == 9:
            return table.truth
        return [table.far(lists[0]), int(table.is_rounding(lists[0]))]

    def told_of_box(self, number, numbers, lists):
        box = BoxPicture(numbers[0], numbers[1:], lists[0])
        if number == 13:
            return [int(box.is_rounding(lists[1]))]
        found = box.roundings()
        return [len(found)] + (min(found) if found else [])

    def told_of_net(self, number, numbers, lists):
        if number == 14:
            self.net = NetPicture(lists[0], fives(lists[1]))
            return [len(self.net.arcs())]
        net = self.net
        if number == 17:
            right = net.is_flow(lists[0])
            return [int(right), int(right and len(lists[1]) == net.nodes and net.proves(lists[0], lists[1]))]
        if number == 19:
            by = net.overfull(set(lists[0]))
            return [int(by > 0), by]
        if number == 20:
            return [net.cost(lists[0]), int(net.is_flow(lists[0]))] + net.left(lists[0])
        best = net.told_flow()
        if best is not None:
            return {15: [1, best[0]] + best[1], 16: [1] + net.told_prices(best[1]), 18: [0]}[number]
        most, nodes = net.told_set()
        return {15: [0] + nodes, 16: [0], 18: [1, most] + nodes}[number]


class Source:
    """Makes calls that are mostly as told, on what the slow line has."""

    def __init__(self, seed):
        self.random = random.Random(seed)
        self.seed = seed

    def call(self, line):
        number = self.random.choice([0, 14] + list(range(22)) + [5, 6, 15, 16, 18, 11, 2, 21])
        numbers, lists = self.good(number, line)
        if self.random.randrange(6) == 0:
            numbers, lists = self.spoiled(numbers, lists)
        return number, numbers, lists

    def good(self, number, line):
        pick, new = self.random.randint, self.random.randrange(10 ** 9)
        told = len(line.table.truth) if line.table else 5
        if number == 0:
            some = some_picture(new, 4, 6)
            return [some.base], [some.rows, some.columns, some.cells]
        if number in (1, 3):
            return ([pick(0, 9), pick(0, 9)] if number == 1 else [pick(0, told)]), []
        if number == 2:
            place = pick(0, told - 1)
            return [place, line.table.truth[place] // line.table.base + pick(0, 1) if line.table else 0], []
        if number == 11:
            return [pick(0, 1), pick(0, 1), pick(0, 60)], []
        if number in (12, 13):
            box = some_box(new)
            while len(box.cells) > 9:
                box = some_box(self.random.randrange(10 ** 9))
            numbers = [one // box.base + pick(0, 1) for one in box.cells]
            return [box.base] + list(box.sizes), [box.cells] + ([numbers] if number == 13 else [])
        if number == 14:
            net = some_net(new)
            return [net.nodes], [net.supplies, [one for arc in net.arcs() for one in arc]]
        return [], self.good_lists(number, line)

    def good_lists(self, number, line):
        looked = line.table if number <= 10 else line.net
        if number in (4, 5, 6, 9, 15, 16, 18, 21):
            return []
        nodes, arcs = (looked.nodes, looked.arcs()) if looked else (3, [(0, 1, 0, 1, 0)] * 4)
        if number in (8, 19):
            return [self.random.sample(range(nodes), self.random.randint(0, nodes))]
        amounts = [self.random.randint(arc[2], arc[3]) for arc in arcs]
        best = None
        if looked is not None and self.random.randrange(2):
            best = looked.told_rounding() if number <= 10 else looked.told_flow()
        prices = [self.random.randint(-5, 5) for node in range(nodes)]
        if best is not None:
            amounts, prices = best[1], looked.told_prices(best[1])
        return [amounts] if number in (10, 20) else [amounts, prices]

    def spoiled(self, numbers, lists):
        """One number or one list isn't as it was: a little, or far outside."""
        numbers, lists = list(numbers), copy.deepcopy(lists)
        odd = self.random.choice([-BIG, -1001, -1, 0, 1, 2, 3, 11, 12, 15, 16, 79, 80, 101, 1000001, BIG])
        place = self.random.randrange(len(numbers) + len(lists)) if numbers or lists else None
        if place is None:
            return numbers, lists
        if place < len(numbers):
            numbers[place] = odd
            return numbers, lists
        spoilt = lists[place - len(numbers)]
        turn = self.random.randrange(4)
        if turn == 0 and spoilt:
            spoilt[self.random.randrange(len(spoilt))] = odd
        elif turn == 1 and spoilt:
            spoilt.pop()
        elif turn == 2:
            spoilt.append(self.random.choice([0, 1, odd]))
        else:
            spoilt.extend([0] * self.random.choice([5, 10, 75, 160 - len(spoilt)]))
        return numbers, lists


def flat(number, numbers, lists):
    handed = [number] + list(numbers)
    for given in lists:
        handed += [len(given)] + list(given)
    return handed


class Mixed(unittest.TestCase):
    def test_sixty_calls_against_the_slow_line(self):
        seen = {}
        for seed in range(120):
            source, line = Source(seed), SlowLine()
            calls, expected = [], []
            while len(calls) < 60:
                call = source.call(line)
                if not self.is_too_wide(call):
                    calls.append(flat(*call))
                    expected.append(line.answer(*call))
                    seen.setdefault(call[0], set()).add(expected[-1][0])
            handed = [number for call in calls for number in call]
            before = list(handed)
            found = ask(*calls)
            for call, answer, told in zip(calls, found, expected):
                self.assertEqual(answer, told, (seed, call))
            self.assertEqual(answers(handed), answers(handed))
            self.assertEqual(handed, before)
        self.assertEveryAnswerWasSeen(seen)

    def is_too_wide(self, call):
        """A spoiled net may have more amounts than can be searched through."""
        size = 1
        for arc in fives(call[2][1]) if call[0] == 14 else []:
            size *= max(1, arc[3] - arc[2] + 1) if len(arc) == 5 else 1
        return size > 5000

    def assertEveryAnswerWasSeen(self, seen):
        refusals = {
            0: [-1, -5, -6], 1: [-1, -2], 2: [-1, -2, -3], 3: [-1, -2, -3], 4: [-2], 5: [-2], 6: [-2], 7: [-1, -2],
            8: [-1, -2, -3], 9: [-2], 10: [-1, -2, -6], 11: [-1, -2, -3], 12: [-1, -6], 13: [-1, -6],
            14: [-1, -3, -6, -7], 15: [-2], 16: [-2], 17: [-1, -2], 18: [-2], 19: [-1, -2, -3], 20: [-1, -2, -6], 21: [],
        }
        for number, due in refusals.items():
            self.assertEqual(seen[number], set(due + [0]), number)

    def test_any_call_first(self):
        for number in range(22):
            numbers = [1] * len(RANGES[number][0])
            lists = [[0]] * len(RANGES[number][1])
            if number == 14:
                lists = [[0], []]
            expected = SlowLine().answer(number, numbers, lists)
            self.assertEqual(answers(flat(number, numbers, lists)), [len(expected)] + expected, number)


class Sizes(unittest.TestCase):
    def test_nothing_at_the_beginning(self):
        self.assertEqual(answers([21]), [8] + [0] * 8)

    def test_tables_and_nets_side_by_side(self):
        made = flat(0, [10], [[0, 0, 0], [0, 0], [4, 7]])
        net = flat(14, [2], [[1, -1], [0, 1, 0, 1, 0] * 3])
        found = ask(made, [21], [2, 0, 1], [2, 1, 1], [2, 1, 0], [21], net, [21], [3, 0], [21], made, [21])
        self.assertEqual(found, [
            [0, 6], [0, 1, 3, 2, 0, 0, 0, 0], [0], [0], [0], [0, 1, 3, 2, 2, 0, 0, 0], [0, 3],
            [0, 1, 3, 2, 2, 1, 2, 3], [0], [0, 1, 3, 2, 1, 1, 2, 3], [0, 6], [0, 1, 3, 2, 0, 1, 2, 3],
        ])

    def test_a_box_is_neither(self):
        self.assertEqual(ask([12, 5, 1, 1, 1, 1, 4], [13, 5, 1, 1, 1, 1, 4, 1, 1], [21])[2], [0] * 8)


if __name__ == "__main__":
    unittest.main()
