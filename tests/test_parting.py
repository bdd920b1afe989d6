"""Calls 10 (fewest), 11 (tree), 12 (depth) and 17 (range), by examples that were worked out by hand."""

import unittest

from helper import LEAST, MOST, ask, ask_of, code, many_values, with_values
from notchcodes.codes import VALUES_TOLD, Code
from notchcodes.parting import Parting, tree_told

# Value v is notched at hole 1 for its 2, at hole 2 for its 1.
PAIR = "code a\nholes 2\nweights 2 1 to 3"
# Likewise with 4, 2 and 1.
CUBE = "code a\nholes 3\nweights 4 2 1 to 7"
ONE_OF_THREE = "code a\nholes 3\nchoose 1"
WOODS = with_values(3, "oak 1", "ash 1 2", "elm 3")
ALONE = with_values(3, "only 2")
HALVES = "code a\nholes 8\nchoose 4"
BITS = "code a\nholes 8\nweights 128 64 32 16 8 4 2 1 to 69"


def fewest(values):
    return (10, list(values))


def tree(values):
    return (11, list(values))


def depth(values):
    return (12, list(values))


def span(first, last):
    return (17, first, last)


class Examples(unittest.TestCase):
    def check(self, text, values, row, least_depth):
        """The needlings are counted in the row, where no hole is taken for one."""
        needlings = (len(row) - 1) // 3
        told = ask_of(text, fewest(values), tree(values), depth(values), (13, list(values), row))
        self.assertEqual(told[:3], [[needlings], [0] + row, [least_depth]])
        self.assertEqual(told[3][:2], [1, needlings])

    def test_none_and_all(self):
        for text, count in ((PAIR, 4), (ONE_OF_THREE, 3), (WOODS, 3), (ALONE, 1), (HALVES, 70), (BITS, 70),
                            (many_values(70), 70), ("code a\nholes 1\nchoose 1", 1)):
            self.check(text, [], [0], 0)
            self.check(text, range(count), [1], 0)

    def test_one_hole_is_enough(self):
        self.check(PAIR, [2, 3], [2, 1, 0, 1], 1)
        self.check(PAIR, [0, 1], [2, 1, 1, 0], 1)
        self.check(PAIR, [1, 3], [2, 2, 0, 1], 1)
        self.check(PAIR, [0, 2], [2, 2, 1, 0], 1)

    def test_one_value_of_all(self):
        self.check(PAIR, [3], [2, 1, 0, 2, 2, 0, 1], 2)
        self.check(PAIR, [0], [2, 1, 2, 2, 1, 0, 0], 2)
        self.check(CUBE, [7], [2, 1, 0, 2, 2, 0, 2, 3, 0, 1], 3)

    def test_an_odd_number_of_notches(self):
        self.check(PAIR, [1, 2], [2, 1, 2, 2, 0, 1, 2, 2, 1, 0], 2)
        third = [2, 3, 0, 1]
        other = [2, 3, 1, 0]
        self.check(CUBE, [1, 2, 4, 7], [2, 1, 2, 2] + third + other + [2, 2] + other + third, 3)

    def test_choose(self):
        self.check(ONE_OF_THREE, [0], [2, 1, 0, 1], 1)
        self.check(ONE_OF_THREE, [1], [2, 2, 0, 1], 1)
        self.check(ONE_OF_THREE, [2], [2, 3, 0, 1], 1)
        self.check(ONE_OF_THREE, [0, 1], [2, 3, 1, 0], 1)
        self.check(HALVES, range(35), [2, 1, 0, 1], 1)

    def test_values_told(self):
        self.check(WOODS, [0, 2], [2, 2, 1, 0], 1)
        self.check(WOODS, [1, 2], [2, 1, 1, 2, 2, 0, 1], 2)
        self.check(with_values(8, "a 1 2 3 4 5 6 7 8", "b 1 2 3 4 5 6 7"), [1], [2, 8, 1, 0], 1)

    def test_the_least_hole_is_not_always_met(self):
        # Hole 3 tells which of the holes 1 and 2 is asked: by hole 1 first it takes 5 needlings.
        self.check(CUBE, [2, 5, 6, 7], [2, 3, 2, 2, 0, 1, 2, 1, 0, 1], 2)

    def test_of_several_holes_the_least(self):
        self.check(with_values(3, "a 1 2 3", "b 1"), [0], [2, 2, 0, 1], 1)
        self.check(with_values(4, "a 2 3 4", "b 1"), [0], [2, 1, 1, 0], 1)

    def test_a_hole_at_which_all_are_alike_is_not_needled(self):
        self.check(with_values(3, "a 1 2", "b 1 3", "c 1 2 3"), [2], [2, 2, 0, 2, 3, 0, 1], 2)

    def test_the_tree_told_may_be_deeper_than_the_least_depth(self):
        # By hole 2 first it's 3 needlings too, and 2 deep; hole 1 is the lesser one.
        text = with_values(3, "a 2", "b 3", "c 1", "d 1 3", "e 1 2 3")
        self.check(text, [0, 1, 3], [2, 1, 1, 2, 2, 2, 3, 0, 1, 0], 2)
        self.assertEqual(ask_of(text, (13, [0, 1, 3], [2, 1, 1, 2, 2, 2, 3, 0, 1, 0]),
                                (13, [0, 1, 3], [2, 2, 2, 3, 0, 1, 2, 1, 1, 0])), [[1, 3, 3], [1, 3, 2]])

    def test_no_where_no_value_is_left(self):
        # A tree with the fewest needlings comes to no such place, so it takes a code without values to see it.
        self.assertEqual(tree_told(Parting(Code([], 3, VALUES_TOLD, [], []), [])), [0])

    def test_the_code_at_the_beginning(self):
        # 7 to 14 are the ones notched for 7.
        self.assertEqual(ask(fewest(range(7, 15)), tree(range(7, 15)), depth(range(7, 15)), span(7, 14)),
                         [[1], [0, 2, 1, 0, 1], [1], [1, 1]])


class Range(unittest.TestCase):
    def test_by_hand(self):
        self.assertEqual(ask_of(PAIR, span(0, 3), span(2, 3), span(3, 3), span(1, 2), span(0, 0), span(0, 1)),
                         [[0, 0], [1, 1], [2, 2], [3, 2], [2, 2], [1, 1]])
        self.assertEqual(ask_of(ONE_OF_THREE, span(0, 0), span(0, 1), span(1, 1), span(0, 2)),
                         [[1, 1], [1, 1], [1, 1], [0, 0]])
        self.assertEqual(ask_of(WOODS, span(1, 2), span(0, 2), span(0, 1)), [[2, 2], [0, 0], [1, 1]])
        self.assertEqual(ask_of(ALONE, span(0, 0)), [[0, 0]])

    def test_as_told_of_the_values_by_themselves(self):
        for text, count in ((CUBE, 8), (HALVES, 70), (BITS, 70), (many_values(70), 70)):
            for first, last in ((0, 0), (0, 3), (1, 5), (count - 3, count - 1), (count - 1, count - 1), (0, count - 1)):
                values = range(first, last + 1)
                told = ask_of(text, span(first, last), fewest(values), depth(values))
                self.assertEqual(told[0], told[1] + told[2])

    def test_values_that_are_not_there(self):
        for first, last in ((-1, 3), (0, 15), (15, 15), (-1, 15), (15, 16), (-2, -1), (LEAST, 3), (3, MOST),
                            (LEAST, MOST), (MOST, LEAST), (LEAST, LEAST), (MOST, MOST), (MOST, 0), (0, LEAST)):
            self.assertEqual(ask(span(first, last), (1,)), [[-5], ask((1,))[0]])
        self.assertEqual(ask_of(ALONE, span(0, 1), span(1, 1), span(-1, 0)), [[-5]] * 3)
        self.assertEqual(ask_of(HALVES, span(0, 69), span(0, 70), span(69, 69), span(70, 70))[1::2], [[-5]] * 2)

    def test_the_last_is_below_the_first(self):
        for first, last in ((1, 0), (14, 0), (14, 13), (8, 7)):
            self.assertEqual(ask(span(first, last)), [[-5]])


class Refused(unittest.TestCase):
    def test_not_rising(self):
        for values in ([-1], [15], [1, 1], [2, 1], [0, 0], [0, 15], [-1, 0], [3, 4, 4], [LEAST], [MOST], [0, MOST],
                       [LEAST, 0], [MOST, LEAST], [0] * 15900, list(range(15900)), [MOST] * 15900):
            for number in (10, 11, 12):
                self.assertEqual(ask((number, values), (18,)), [[-4], [4, 15, 1]])

    def test_the_values_of_the_code_that_is_there(self):
        for number in (10, 11, 12):
            self.assertEqual(ask_of(ALONE, (number, [1]), (number, [0, 1]), (number, [2])), [[-4]] * 3)
            told = ask(code(HALVES), (number, [69]), (number, [70]), code(PAIR), (number, [3]), (number, [4]))
            self.assertEqual([told[2], told[5]], [[-4]] * 2)
            self.assertGreaterEqual(min(told[1][0], told[4][0]), 0)


if __name__ == "__main__":
    unittest.main()
