"""The calls cube and cubecheck: boxes in three directions."""

import itertools
import random
import unittest

from helper import BoxPicture, ask, cube, cubecheck, last, some_box

# Its cells 1, 4 and 7 are the halves; each two of them are a whole together, in some plane.
NO_ROUNDING = (2, (2, 2, 2), [0, 1, 0, 0, 1, 0, 0, 1])


class Cube(unittest.TestCase):
    def test_one_cell(self):
        self.assertEqual(last(cube(5, (1, 1, 1), [4])), [0, 2, 0])
        self.assertEqual(last(cube(5, (1, 1, 1), [6])), [0, 2, 1])
        self.assertEqual(last(cube(5, (1, 1, 1), [10])), [0, 1, 2])
        self.assertEqual(last(cube(1, (1, 1, 1), [1000000])), [0, 1, 1000000])
        self.assertEqual(last(cube(100, (1, 1, 1), [999999])), [0, 2, 9999])

    def test_a_row(self):
        # 5 and 5 to base 10: the sum is 1, so just one of them is.
        for sizes in ((2, 1, 1), (1, 2, 1), (1, 1, 2)):
            self.assertEqual(last(cube(10, sizes, [5, 5])), [0, 2, 0, 1])
            self.assertEqual(last(cube(10, sizes, [4, 5])), [0, 3, 0, 0])
            self.assertEqual(last(cube(10, sizes, [6, 5])), [0, 3, 0, 1])

    def test_multiples_stay(self):
        self.assertEqual(last(cube(10, (2, 2, 2), [0, 10, 20, 30, 40, 50, 60, 70])), [0, 1, 0, 1, 2, 3, 4, 5, 6, 7])
        self.assertEqual(last(cube(1, (3, 2, 2), list(range(12)))), [0, 1] + list(range(12)))

    def test_no_rounding(self):
        self.assertEqual(last(cube(*NO_ROUNDING)), [0, 0])
        self.assertEqual(last(cube(2, (3, 2, 2), [2, 1, 1, 2, 1, 0, 0, 0, 0, 0, 0, 0])), [0, 0])

    def test_every_sum_counts(self):
        # Two halves that share just one sum: with one index going through, with two, or the sum of all.
        for where in itertools.combinations(range(8), 2):
            cells = [1 if k in where else 0 for k in range(8)]
            first = [1 if k == where[1] else 0 for k in range(8)]
            self.assertEqual(last(cube(2, (2, 2, 2), cells)), [0, 2] + first)

    def test_the_order_of_the_cells(self):
        # The first index goes slowest: with 2, 3, 2 the cells 0 and 11 share the sum of all alone.
        for sizes in ((2, 3, 2), (3, 2, 2), (2, 2, 3), (1, 3, 3), (3, 3, 1), (3, 1, 3)):
            for turn in range(8):
                source = random.Random(turn)
                size = sizes[0] * sizes[1] * sizes[2]
                box = BoxPicture(3, sizes, [source.randint(0, 9) for k in range(size)])
                self.assertTold(box)

    def test_against_all_choices(self):
        several = 0
        for seed in range(400):
            several += self.assertTold(some_box(seed)) > 1
        self.assertGreater(several, 100)

    def test_boxes_without_a_rounding_against_all_choices(self):
        without = 0
        for seed in range(250):
            source = random.Random(seed)
            box = BoxPicture(2, (2, 2, 2), [source.randint(0, 2) for k in range(8)])
            if seed % 5 == 0:
                box = BoxPicture(2, (3, 2, 2), [source.choice([0, 1, 2]) for k in range(12)])
            without += self.assertTold(box) == 0
        self.assertGreater(without, 3)

    def assertTold(self, box):
        """Answers how many roundings it has."""
        found = box.roundings()
        self.assertEqual(found, sorted(found))
        expected = [0, len(found)] + (found[0] if found else [])
        self.assertEqual(last(box.call()), expected, (box.base, box.sizes, box.cells))
        return len(found)

    def test_sixty_of_the_largest(self):
        boxes = [BoxPicture(100, (3, 2, 2), [k * 7919 % 100 for k in range(first, first + 12)]) for first in range(60)]
        found = ask(*[box.call() for box in boxes])
        for box, answer in list(zip(boxes, found))[::20]:
            roundings = box.roundings()
            self.assertEqual(answer, [0, len(roundings)] + (roundings[0] if roundings else []))


class Cubecheck(unittest.TestCase):
    def test_ordinary(self):
        self.assertEqual(last(cubecheck(10, (2, 1, 1), [5, 5], [0, 1])), [0, 1])
        self.assertEqual(last(cubecheck(10, (2, 1, 1), [5, 5], [1, 0])), [0, 1])
        self.assertEqual(last(cubecheck(10, (2, 1, 1), [5, 5], [1, 1])), [0, 0])
        self.assertEqual(last(cubecheck(10, (2, 1, 1), [5, 5], [0, 0])), [0, 0])

    def test_cells_not_beside(self):
        self.assertEqual(last(cubecheck(10, (2, 1, 1), [15, 15], [0, 3])), [0, 0])
        self.assertEqual(last(cubecheck(10, (1, 1, 1), [20], [3])), [0, 0])
        self.assertEqual(last(cubecheck(10, (1, 1, 1), [20], [2])), [0, 1])
        self.assertEqual(last(cubecheck(10, (1, 1, 1), [20], [1])), [0, 0])

    def test_numbers_not_as_many_as_cells(self):
        for numbers in ([], [0], [0, 1, 0], [0] * 12):
            self.assertEqual(last(cubecheck(10, (2, 1, 1), [5, 5], numbers)), [0, 0])

    def test_no_list_where_there_is_no_rounding(self):
        for numbers in itertools.product([0, 1], repeat=8):
            self.assertEqual(last(cubecheck(*NO_ROUNDING, list(numbers))), [0, 0])

    def test_against_the_slow_look(self):
        accepted = 0
        for seed in range(200):
            box = some_box(seed)
            source = random.Random(seed)
            for turn in range(4):
                numbers = [max(0, number // box.base + source.choice([0, 0, 1])) for number in box.cells]
                self.assertEqual(last(box.check(numbers)), [0, int(box.is_rounding(numbers))], seed)
                accepted += box.is_rounding(numbers)
        self.assertGreater(accepted, 50)

    def test_all_roundings_and_what_is_beside_them(self):
        for seed in range(40):
            box = some_box(1000 + seed)
            for numbers in box.roundings()[:10]:
                self.assertEqual(last(box.check(numbers)), [0, 1], seed)
                for k, number in enumerate(numbers):
                    other = numbers[:k] + [number + 1] + numbers[k + 1:]
                    if other[k] <= 1000000:
                        self.assertEqual(last(box.check(other)), [0, int(box.is_rounding(other))], seed)

    def test_the_first_rounding_is_one(self):
        for seed in range(100):
            box = some_box(2000 + seed)
            answer = last(box.call())
            if answer[1]:
                self.assertEqual(last(box.check(answer[2:])), [0, 1])


if __name__ == "__main__":
    unittest.main()
