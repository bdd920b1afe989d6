"""Calls 6 (falls), 7 (clean), 8 (nearest) and 9 (slips), and the third promise as far as they go."""

import unittest

from helper import LEAST, MOST, ask, ask_of, many_values, with_values

WOODS = with_values(6, "oak 1 2", "ash 3", "elm 1 2 6", "fir 4 5")
PAIRS = "code pairs\nholes 5\nchoose 2"
ALONE = with_values(3, "only 2")


def falls(*holes):
    return (6, list(holes))


CLEAN = (7,)
NEAREST = (8,)
SLIPS = (9,)


class Falls(unittest.TestCase):
    def test_told(self):
        self.assertEqual(ask_of(WOODS, falls(1), falls(1, 2), falls(2, 6), falls(3), falls(1, 3), falls(4, 5)),
                         [[2, 0, 2], [2, 0, 2], [1, 2], [1, 1], [0], [1, 3]])

    def test_weights(self):
        self.assertEqual(ask(falls(1), falls(4), falls(1, 2, 3, 4)),
                         [[8, 7, 8, 9, 10, 11, 12, 13, 14], [7, 1, 3, 5, 8, 10, 12, 14], [1, 14]])

    def test_choose(self):
        self.assertEqual(ask_of(PAIRS, falls(1), falls(5), falls(2, 4), falls(1, 2, 3)),
                         [[4, 0, 1, 2, 3], [4, 3, 6, 8, 9], [1, 5], [0]])

    def test_without_holes_all_fall(self):
        self.assertEqual(ask(falls()), [[15] + list(range(15))])
        self.assertEqual(ask_of(ALONE, falls()), [[1, 0]])
        self.assertEqual(ask_of(many_values(70), falls()), [[70] + list(range(70))])

    def test_not_rising(self):
        for holes in ([0], [5], [1, 1], [2, 1], [3, 4, 5], [-1], [LEAST], [MOST], [1, MOST], [LEAST, 1],
                      [2] * 15900, list(range(15900)), list(range(1, 15901))):
            self.assertEqual(ask((6, holes)), [[-4]])
        self.assertEqual(ask_of(ALONE, falls(3), falls(4)), [[0], [-4]])


class Clean(unittest.TestCase):
    def test_clean(self):
        self.assertEqual(ask_of(with_values(4, "a 1 2", "b 2 3", "c 1 3", "d 4"), CLEAN), [[1]])
        self.assertEqual(ask_of(ALONE, CLEAN), [[1]])

    def test_not_clean(self):
        self.assertEqual(ask_of(WOODS, CLEAN), [[0, 0, 2]])
        self.assertEqual(ask(CLEAN), [[0, 0, 1]])

    def test_the_least_value_and_the_least_other(self):
        self.assertEqual(ask_of(with_values(4, "a 4", "b 1 2 3", "c 1 2", "d 2", "e 2 3"), CLEAN), [[0, 2, 1]])
        self.assertEqual(ask_of(with_values(4, "a 1 2 3", "b 3 4", "c 2", "d 1 2", "e 4"), CLEAN), [[0, 2, 0]])
        self.assertEqual(ask_of(with_values(4, "a 1 4", "b 2", "c 2 3 4", "d 2 3"), CLEAN), [[0, 1, 2]])

    def test_weights_are_never_clean(self):
        for last in range(1, 15):
            self.assertEqual(ask_of("code a\nholes 4\nweights 7 4 2 1 to %d" % last, CLEAN), [[0, 0, 1]])


class Nearest(unittest.TestCase):
    def test_one_value_alone(self):
        self.assertEqual(ask_of(ALONE, NEAREST), [[0]])
        self.assertEqual(ask_of("code a\nholes 8\nchoose 8", NEAREST), [[0]])

    def test_told(self):
        self.assertEqual(ask_of(WOODS, NEAREST), [[1, 0, 2]])
        self.assertEqual(ask_of(with_values(8, "a 1 2 3 4", "b 5 6 7 8"), NEAREST), [[8, 0, 1]])
        self.assertEqual(ask_of(with_values(8, "a 1 2 3 4", "b 5 6 7 8", "c 4 5 6 7 8"), NEAREST), [[1, 1, 2]])

    def test_of_several_the_least(self):
        self.assertEqual(ask_of(with_values(6, "a 1 2 3", "b 5", "c 4 6", "d 6", "e 4"), NEAREST), [[1, 2, 3]])
        self.assertEqual(ask_of(with_values(6, "a 1 2 3 4", "b 5", "c 6", "d 4"), NEAREST), [[2, 1, 2]])
        self.assertEqual(ask_of(with_values(6, "a 1", "b 2 3 4", "c 5", "d 2 3", "e 6"), NEAREST), [[1, 1, 3]])

    def test_weights_and_choose(self):
        self.assertEqual(ask(NEAREST), [[1, 0, 1]])
        self.assertEqual(ask_of(PAIRS, NEAREST), [[2, 0, 1]])


class Slips(unittest.TestCase):
    def test_told(self):
        self.assertEqual(ask_of(WOODS, SLIPS), [[1, 0, 6, 2]])

    def test_by_values_then_holes(self):
        self.assertEqual(ask_of(with_values(3, "a 1 2 3", "b 1", "c 1 3", "d 1 2", "e 3"), SLIPS),
                         [[5, 1, 2, 3, 1, 3, 2, 2, 2, 0, 3, 3, 0, 4, 1, 2]])

    def test_weights(self):
        self.assertEqual(ask_of("code a\nholes 2\nweights 2 1 to 3", SLIPS), [[4, 0, 1, 2, 0, 2, 1, 1, 1, 3, 2, 2, 3]])
        self.assertEqual(ask_of("code a\nholes 3\nweights 3 2 1 to 3", SLIPS), [[3, 0, 1, 3, 0, 2, 2, 0, 3, 1]])

    def test_none(self):
        self.assertEqual(ask_of(ALONE, SLIPS), [[0]])
        self.assertEqual(ask_of(PAIRS, SLIPS), [[0]])
        self.assertEqual(ask_of(with_values(4, "a 1", "b 1 2 3"), SLIPS), [[0]])


class ThirdPromise(unittest.TestCase):
    def check_alone(self, text):
        count = ask_of(text, falls())[0][0]
        marks = [told[1:] for told in ask_of(text, *[(2, value) for value in range(count)])]
        self.assertEqual(ask_of(text, *[(6, holes) for holes in marks]), [[1, value] for value in range(count)])

    def test_by_choose_the_code_is_clean_and_values_fall_alone(self):
        for holes in range(1, 9):
            for size in range(1, holes + 1):
                text = "code a\nholes %d\nchoose %d" % (holes, size)
                self.assertEqual(ask_of(text, CLEAN), [[1]])
                self.check_alone(text)

    def test_values_of_a_clean_code_fall_alone(self):
        for text in (with_values(4, "a 1 2", "b 2 3", "c 1 3", "d 4"),
                     with_values(5, "a 1 2 3", "b 3 4", "c 1 4", "d 5"), ALONE):
            self.assertEqual(ask_of(text, CLEAN), [[1]])
            self.check_alone(text)


if __name__ == "__main__":
    unittest.main()
