"""Call 13 (check): whether a row of numbers is a tree, whether it parts, its needlings and its depth."""

import unittest

from helper import LEAST, MOST, ask, ask_of, many_values, with_values

# Value v is notched at hole 1 for its 2, at hole 2 for its 1.
PAIR = "code a\nholes 2\nweights 2 1 to 3"
HALVES = "code a\nholes 8\nchoose 4"


def check(values, row):
    return (13, list(values), list(row))


def of_pair(values, row):
    return ask_of(PAIR, check(values, row))[0]


def nested(count, before, end, behind):
    """So many needlings within one another."""
    return before * count + end + behind * count


class Parts(unittest.TestCase):
    def test_without_needlings(self):
        self.assertEqual(of_pair([], [0]), [1, 0, 0])
        self.assertEqual(of_pair([0, 1, 2, 3], [1]), [1, 0, 0])
        self.assertEqual(of_pair([], [1]), [0, 0, 0])
        self.assertEqual(of_pair([0, 1, 2, 3], [0]), [0, 0, 0])
        self.assertEqual(of_pair([0, 1, 2], [1]), [0, 0, 0])
        self.assertEqual(of_pair([3], [0]), [0, 0, 0])

    def test_the_row_of_those_that_stay_comes_first(self):
        self.assertEqual(of_pair([2, 3], [2, 1, 0, 1]), [1, 1, 1])
        self.assertEqual(of_pair([0, 1], [2, 1, 1, 0]), [1, 1, 1])
        self.assertEqual(of_pair([2, 3], [2, 1, 1, 0]), [0, 1, 1])
        self.assertEqual(of_pair([1, 3], [2, 2, 0, 1]), [1, 1, 1])
        self.assertEqual(of_pair([1, 3], [2, 1, 0, 1]), [0, 1, 1])

    def test_every_value_counts(self):
        row = [2, 1, 2, 2, 0, 1, 2, 2, 1, 0]
        for number in range(16):
            values = [value for value in range(4) if number >> value & 1]
            self.assertEqual(of_pair(values, row), [1 if values == [1, 2] else 0, 3, 2])

    def test_a_tree_with_more_than_the_fewest(self):
        self.assertEqual(of_pair([2, 3], [2, 2, 2, 1, 0, 1, 2, 1, 0, 1]), [1, 3, 2])
        self.assertEqual(of_pair([], [2, 1, 0, 0]), [1, 1, 1])

    def test_depth_is_that_of_the_deepest_way(self):
        self.assertEqual(of_pair([3], [2, 1, 0, 2, 2, 0, 1]), [1, 2, 2])
        self.assertEqual(of_pair([0], [2, 1, 2, 2, 1, 0, 0]), [1, 2, 2])
        self.assertEqual(of_pair([1, 2], [2, 1, 0, 2, 2, 0, 2, 1, 0, 1]), [0, 3, 3])

    def test_a_hole_needled_twice(self):
        # Those that fell at a hole fall there again, and those that stayed stay.
        self.assertEqual(of_pair([2, 3], [2, 1, 2, 1, 0, 1, 2, 1, 0, 1]), [1, 3, 2])
        self.assertEqual(of_pair([2, 3], [2, 1, 2, 1, 0, 1, 1]), [1, 2, 2])
        self.assertEqual(of_pair([2, 3], [2, 1, 0, 2, 1, 1, 0]), [0, 2, 2])

    def test_a_way_that_no_value_goes_counts_for_the_depth(self):
        self.assertEqual(of_pair([2, 3], [2, 1, 0, 2, 1, 2, 2, 0, 2, 2, 0, 0, 1]), [1, 4, 4])
        alone = with_values(3, "only 2")
        self.assertEqual(ask_of(alone, check([0], [2, 2, 2, 1, 0, 2, 3, 0, 0, 1]), check([], [2, 1, 0, 1])),
                         [[1, 3, 3], [1, 1, 1]])

    def test_choose_and_values_told(self):
        self.assertEqual(ask_of("code a\nholes 3\nchoose 1", check([0, 1], [2, 3, 1, 0]), check([0], [2, 3, 1, 0])),
                         [[1, 1, 1], [0, 1, 1]])
        woods = with_values(3, "oak 1", "ash 1 2", "elm 3")
        self.assertEqual(ask_of(woods, check([1, 2], [2, 1, 1, 2, 2, 0, 1]), check([1, 2], [2, 1, 0, 2, 2, 0, 1])),
                         [[1, 2, 2], [0, 2, 2]])

    def test_8_holes(self):
        self.assertEqual(ask_of(HALVES, check(range(35), [2, 1, 0, 1]), check([69], [2, 8, 0, 1])),
                         [[1, 1, 1], [0, 1, 1]])
        last = [2, 5, 0, 2, 6, 0, 2, 7, 0, 2, 8, 0, 1]
        self.assertEqual(ask_of(HALVES, check([69], last), check([68], last)), [[1, 4, 4], [0, 4, 4]])


class NoTree(unittest.TestCase):
    def refused(self, row):
        self.assertEqual(of_pair([3], row), [-2], row)
        self.assertEqual(of_pair([], row), [-2], row)

    def test_rows_that_break_off(self):
        for row in ([2, 1, 0, 2, 2, 0, 1], [2, 2, 2, 1, 0, 1, 1], [1], [2, 1, 2, 2, 0, 1, 2, 2, 1, 0]):
            self.assertNotEqual(of_pair([3], row), [-2])
            for end in range(len(row)):
                self.refused(row[:end])

    def test_rows_that_go_on(self):
        for row in ([0], [1], [2, 1, 0, 1], [2, 1, 0, 2, 2, 0, 1]):
            for more in ([0], [1], [2], [2, 1, 0, 1], [7], [-1], [LEAST], [MOST]):
                self.refused(row + more)

    def test_holes_that_are_not_there(self):
        for hole in (0, 3, -1, 9, LEAST, MOST):
            self.refused([2, hole, 0, 1])
            self.refused([2, 1, 0, 2, hole, 0, 1])
            self.refused([2, 1, 2, hole, 0, 1, 0])
        for holes in range(1, 9):
            told = ask_of("code a\nholes %d\nchoose 1" % holes,
                          check([], [2, holes, 0, 0]), check([], [2, holes + 1, 0, 0]))
            self.assertEqual(told, [[1, 1, 1], [-2]])

    def test_numbers_that_begin_no_tree(self):
        for number in (3, -1, 4, 255, LEAST, MOST):
            self.refused([number])
            self.refused([number, 1, 0, 1])
            self.refused([2, 1, number, 1])
            self.refused([2, 1, 0, number])
            self.refused([2, 1, 0, number, 2, 0, 1])

    def test_a_row_that_would_not_part_is_refused_too(self):
        self.refused([2, 1, 1, 1, 1])
        self.refused([1, 1])
        self.refused([2, 1, 1])


class Refused(unittest.TestCase):
    def test_not_rising(self):
        for values in ([-1], [15], [1, 1], [2, 1], [LEAST], [MOST], [0, MOST], [0] * 15000, list(range(15600))):
            self.assertEqual(ask(check(values, [0]), (18,)), [[-4], [4, 15, 1]])

    def test_values_ahead_of_the_tree(self):
        for row in ([], [3], [2], [0, 0], [2, 9, 0, 1], [MOST] * 300):
            self.assertEqual(ask(check([15], row), check([1, 0], row), check([0], row)), [[-4], [-4], [-2]])


class Long(unittest.TestCase):
    """A tree of n needlings has 3 n + 1 numbers: 99 needlings are the most within 300."""

    def test_nested_where_they_stay(self):
        row = nested(99, [2, 1], [0], [1])
        self.assertEqual(len(row), 298)
        self.assertEqual(of_pair([2, 3], row), [1, 99, 99])
        self.assertEqual(of_pair([2], row), [0, 99, 99])

    def test_nested_where_they_fall(self):
        row = nested(99, [2, 2, 0], [1], [])
        self.assertEqual(len(row), 298)
        self.assertEqual(of_pair([1, 3], row), [1, 99, 99])
        self.assertEqual(of_pair([0, 1, 3], row), [0, 99, 99])

    def test_of_70_values(self):
        row = []
        for at in range(99):
            row += [2, 1 + at % 8, 0]
        told = ask_of(HALVES, check([], row + [1]), check([0], row + [1]), check([], row))
        self.assertEqual(told, [[1, 99, 99], [0, 99, 99], [-2]])
        self.assertEqual(ask_of(many_values(70), check([], row + [0])), [[1, 99, 99]])

    def test_wide(self):
        row = [0]
        for hole in (1, 2, 3, 4, 5, 6):
            row = [2, hole] + row + row
        self.assertEqual(len(row), 190)
        self.assertEqual(ask_of(HALVES, check([], row), check([0], row)), [[1, 63, 6], [0, 63, 6]])

    def test_300_numbers_that_are_none(self):
        for row in ([2, 1] * 150, [2, 1, 0] * 100, [2] * 300, [1] * 300, [0] * 300,
                    nested(99, [2, 1], [0], [1]) + [0, 0],
                    nested(99, [2, 2, 0], [1], []) + [1, 1], [2, 2] * 149 + [0, 1], [LEAST] * 300, [MOST] * 300):
            self.assertEqual(len(row), 300)
            self.assertEqual(of_pair([3], row), [-2])

    def test_one_number_less_or_more_or_other(self):
        row = nested(99, [2, 1], [0], [1])
        for other in (row[:-1], row + [1], row[:200] + [3] + row[201:], row[:99] + [9] + row[100:],
                      row[:-1] + [2], row[:-1] + [-1]):
            self.assertEqual(of_pair([2, 3], other), [-2])


if __name__ == "__main__":
    unittest.main()
