"""Calls 2 (marks), 3 (value), 4 (name) and 5 (find)."""

import itertools
import unittest

from helper import LEAST, MOST, ask, ask_of, find, many_values, row, with_values

WOODS = with_values(6, "oak 1 2", "ash 3", "elm 1 2 6", "abcdefghijkl 1 2 3 4 5 6")
PAIRS = "code pairs\nholes 5\nchoose 2"


def marks(value):
    return (2, value)


def value(*holes):
    return (3, list(holes))


def name(number):
    return (4, number)


class Marks(unittest.TestCase):
    def test_told(self):
        self.assertEqual(ask_of(WOODS, *map(marks, range(4))),
                         [[2, 1, 2], [1, 3], [3, 1, 2, 6], [6, 1, 2, 3, 4, 5, 6]])

    def test_weights(self):
        told = [[0], [1, 4], [1, 3], [2, 3, 4], [1, 2], [2, 2, 4], [2, 2, 3], [1, 1], [2, 1, 4], [2, 1, 3],
                [3, 1, 3, 4], [2, 1, 2], [3, 1, 2, 4], [3, 1, 2, 3], [4, 1, 2, 3, 4]]
        self.assertEqual(ask(*map(marks, range(15))), told)

    def test_the_greatest_weight_that_fits_is_taken(self):
        self.assertEqual(ask_of("code a\nholes 3\nweights 3 2 1 to 6", marks(3), marks(4), marks(5), marks(6)),
                         [[1, 1], [2, 1, 3], [2, 1, 2], [3, 1, 2, 3]])

    def test_a_weight_that_is_never_taken(self):
        self.assertEqual(ask_of("code a\nholes 2\nweights 1000 1 to 1", marks(0), marks(1)), [[0], [1, 2]])

    def test_choose(self):
        told = [[2, 1, 2], [2, 1, 3], [2, 1, 4], [2, 1, 5], [2, 2, 3], [2, 2, 4], [2, 2, 5], [2, 3, 4], [2, 3, 5],
                [2, 4, 5]]
        self.assertEqual(ask_of(PAIRS, *map(marks, range(10))), told)

    def test_choose_all_sizes(self):
        for holes in range(1, 9):
            for size in range(1, holes + 1):
                sets = list(itertools.combinations(range(1, holes + 1), size))
                told = ask_of("code a\nholes %d\nchoose %d" % (holes, size), *map(marks, range(len(sets))))
                self.assertEqual(told, [[size] + list(chosen) for chosen in sets])

    def test_no_such_value(self):
        for number in (-1, 15, 16, 70, LEAST, MOST):
            self.assertEqual(ask(marks(number)), [[-5]])
        self.assertEqual(ask_of(WOODS, marks(3), marks(4), marks(-1)), [[6, 1, 2, 3, 4, 5, 6], [-5], [-5]])

    def test_the_last_of_70(self):
        self.assertEqual(ask_of(many_values(70), marks(69), marks(70)), [[3, 2, 3, 7], [-5]])


class Value(unittest.TestCase):
    def test_told(self):
        self.assertEqual(ask_of(WOODS, value(1, 2), value(3), value(1, 2, 6), value(1, 2, 3, 4, 5, 6)),
                         [[1, 0], [1, 1], [1, 2], [1, 3]])

    def test_just_these(self):
        self.assertEqual(ask_of(WOODS, value(1), value(1, 2, 3), value(2), value(6), value(1, 6)), [[0]] * 5)

    def test_none(self):
        self.assertEqual(ask(value()), [[1, 0]])
        self.assertEqual(ask_of(WOODS, value()), [[0]])
        self.assertEqual(ask_of(PAIRS, value()), [[0]])

    def test_weights(self):
        self.assertEqual(ask(value(1, 2, 3, 4), value(1), value(2, 3), value(2, 3, 4)), [[1, 14], [1, 7], [1, 6], [0]])

    def test_choose(self):
        self.assertEqual(ask_of(PAIRS, value(4, 5), value(1, 2), value(1), value(1, 2, 3)), [[1, 9], [1, 0], [0], [0]])

    def test_not_rising(self):
        for holes in ([0], [5], [1, 1], [2, 1], [1, 2, 2], [4, 5], [0, 1], [-1], [LEAST], [MOST], [1, MOST],
                      [LEAST, 1], [1, 2, 3, 4, 4], [1, 2, 3, 4, 5], [1] * 15900, list(range(1, 15901))):
            self.assertEqual(ask((3, holes)), [[-4]])

    def test_the_holes_of_the_code_that_is_there(self):
        self.assertEqual(ask_of(WOODS, value(6), value(7)), [[0], [-4]])
        self.assertEqual(ask_of("code a\nholes 1\nchoose 1", value(1), value(2)), [[1, 0], [-4]])


class Name(unittest.TestCase):
    def test_told(self):
        self.assertEqual(ask_of(WOODS, name(0), name(1), name(3)),
                         [[0, 3] + row("oak"), [0, 3] + row("ash"), [0, 12] + row("abcdefghijkl")])
        self.assertEqual(ask_of(with_values(1, "q 1"), name(0)), [[0, 1, 113]])

    def test_numbers(self):
        self.assertEqual(ask(name(0), name(9), name(10), name(14)),
                         [[0, 1, 48], [0, 1, 57], [0, 2, 49, 48], [0, 2, 49, 52]])
        self.assertEqual(ask_of("code a\nholes 8\nchoose 4", name(0), name(69)), [[0, 1, 48], [0, 2, 54, 57]])

    def test_no_such_value(self):
        for number in (-1, 15, LEAST, MOST):
            self.assertEqual(ask(name(number)), [[-5]])
        self.assertEqual(ask_of(WOODS, name(4), name(-4)), [[-5], [-5]])


class Find(unittest.TestCase):
    def test_told(self):
        self.assertEqual(ask_of(WOODS, find("oak"), find("ash"), find("elm"), find("abcdefghijkl")),
                         [[0], [1], [2], [3]])

    def test_numbers(self):
        self.assertEqual(ask(find("0"), find("7"), find("14")), [[0], [7], [14]])
        self.assertEqual(ask_of("code a\nholes 8\nchoose 4", find("0"), find("69")), [[0], [69]])

    def test_every_name(self):
        for text in (WOODS, PAIRS, many_values(70)):
            count = ask_of(text, (6, []))[0][0]
            names = ask_of(text, *map(name, range(count)))
            self.assertEqual(ask_of(text, *[find(told[2:]) for told in names]), [[at] for at in range(count)])

    def test_none_has_it(self):
        for text in ("", "oa", "oakk", "Oak", "woods", "some", "0", " oak", "oak\n", "abcdefghijklm"):
            self.assertEqual(ask_of(WOODS, find(text)), [[-5]], text)
        for text in ("", "00", "01", "15", "-1", "+1", "none", "1 "):
            self.assertEqual(ask(find(text)), [[-5]], text)
        self.assertEqual(ask(find([48] * 2000), find([0]), find([255])), [[-5]] * 3)

    def test_not_bytes(self):
        for text in ([48] * 2001, [48] * 15900, [-1], [256], [48, -1], [256, 48], [LEAST], [MOST], [MOST] * 15900):
            self.assertEqual(ask(find(text)), [[-1]])


if __name__ == "__main__":
    unittest.main()
