"""Calls 14 (labels) and 15 (accept), and the second promise."""

import random
import unittest

from helper import LEAST, MOST, ask, ask_of, with_values

# Value v is notched at hole 1 for its 2, at hole 2 for its 1.
PAIR = "code a\nholes 2\nweights 2 1 to 3"
TEXTS = {"code a\nholes 1\nchoose 1": 1, "code a\nholes 1\nweights 1 to 1": 2, PAIR: 4,
         "code a\nholes 3\nchoose 2": 3, "code a\nholes 3\nweights 3 2 1 to 6": 7,
         "code a\nholes 4\nweights 7 4 2 1 to 14": 15, "code a\nholes 5\nchoose 2": 10,
         "code a\nholes 5\nweights 16 8 4 2 1 to 31": 32,
         with_values(5, "oak 1 2", "ash 3", "elm 1 2 5", "fir 2 4 5"): 4, with_values(3, "only 2"): 1}
SIX = ["code a\nholes %d\n%s" % (holes, tail) for holes in (6, 7, 8) for tail in ("choose 3", "value a 1")]


def labels(values):
    return (14, list(values))


def accept(values, told):
    return (15, list(values), list(told))


def some_values(text):
    """No values, all, one, and some."""
    count = TEXTS[text]
    chance = random.Random(count)
    picked = [[value for value in range(count) if chance.random() < 0.5] for turn in range(4)]
    return [[], list(range(count)), [0], [count - 1]] + picked


def each_told():
    for text in TEXTS:
        for values in some_values(text):
            told = ask_of(text, labels(values))[0]
            yield text, values, told[1:]


class Labels(unittest.TestCase):
    def test_by_hand(self):
        # In order for what's known of the holes 1 and 2: stayed, fell, or not needled at hole 1, thrice.
        self.assertEqual(ask_of(PAIR, labels([3]), labels([0]), labels([1, 2]), labels([2, 3]), labels([1, 3])),
                         [[0, 0, 0, 0, 0, 0, 1, 0, 1, 2], [0, 0, 0, 1, 0, 0, 0, 1, 0, 2],
                          [0, 0, 0, 1, 0, 0, 1, 1, 1, 3], [0, 0, 0, 1, 0, 0, 1, 0, 0, 1],
                          [0, 0, 0, 0, 0, 0, 0, 1, 1, 1]])

    def test_one_hole(self):
        text = "code a\nholes 1\nweights 1 to 1"
        self.assertEqual(ask_of(text, labels([0]), labels([1]), labels([]), labels([0, 1])),
                         [[0, 0, 0, 1], [0, 0, 0, 1], [0, 0, 0, 0], [0, 0, 0, 0]])

    def test_where_no_value_is_left(self):
        # Values notched at the one hole or the other: where both stayed or both fell there is none.
        text = with_values(2, "a 1", "b 2")
        self.assertEqual(ask_of(text, labels([0])), [[0, 0, 0, 0, 0, 0, 0, 0, 0, 1]])

    def test_as_many_as_may_be_known(self):
        for holes in range(1, 6):
            told = ask_of("code a\nholes %d\nchoose 1" % holes, labels([]))[0]
            self.assertEqual(told, [0] + [0] * 3 ** holes)

    def test_the_last_is_the_fewest(self):
        for text, values, told in each_told():
            self.assertEqual(ask_of(text, (10, values)), [[told[-1]]])


class Accept(unittest.TestCase):
    def test_labels_told_are_accepted(self):
        for text, values, told in each_told():
            self.assertEqual(ask_of(text, accept(values, told)), [[1, told[-1]]])

    def test_one_too_great_anywhere(self):
        for text, values, told in each_told():
            wrong = [told[:at] + [told[at] + 1] + told[at + 1:] for at in range(len(told))]
            for row in wrong[:12] + wrong[-12:]:
                self.assertEqual(ask_of(text, accept(values, row)), [[0]])

    def test_one_label_too_few_or_too_many(self):
        for text, values, told in each_told():
            for row in ([], told[:-1], told[1:], told + [0], told + [told[-1]], [0] + told, told + told, [0]):
                self.assertEqual(ask_of(text, accept(values, row)), [[0]])
        self.assertEqual(ask(accept([], [0] * 15900), accept([], [0] * 81)), [[0], [1, 0]])

    def test_lesser_ones(self):
        # Each label at most 1 and those of its two sides.
        for row, told in (([0, 0, 0, 0, 0, 1, 0, 1, 2], [1, 2]), ([0, 0, 0, 0, 0, 1, 0, 1, 1], [1, 1]),
                          ([0, 0, 0, 0, 0, 0, 0, 0, 1], [1, 1]), ([0, 0, 0, 0, 0, 0, 0, 0, 2], [0]),
                          ([0, 0, 0, 0, 0, 1, 0, 0, 2], [0]), ([0, 0, 0, 0, 0, 0, 0, 1, 2], [0]),
                          ([0] * 9, [1, 0]), ([0, 0, 0, 0, 0, 1, 0, 1, 3], [0])):
            self.assertEqual(ask_of(PAIR, accept([3], row)), [told], row)

    def test_below_0(self):
        for row, told in (([-1] * 9, [1, -1]), ([-2] * 9, [0]),
                          ([0] * 8 + [-7], [1, -7]), ([0] * 8 + [LEAST], [1, LEAST]),
                          ([-5, -5, -5, 0, 0, 1, 0, 1, 2], [0]), ([-5, 0, -5, 0, 0, 1, 0, 1, -3], [1, -3]),
                          ([0, 0, -1, 0, 0, 1, 0, 1, 2], [0]), ([0, 0, -1, 0, 0, 1, 0, 1, 1], [1, 1])):
            self.assertEqual(ask_of(PAIR, accept([3], row)), [told], row)
        self.assertEqual(ask_of(PAIR, accept([], [-5] * 9), accept([0, 1, 2, 3], [LEAST] * 9)), [[1, -5], [1, LEAST]])

    def test_no_more_than_0_where_the_values_are_alike(self):
        for at in range(9):
            for label, taken in ((1, False), (MOST, False), (0, True), (-1, True), (LEAST, True)):
                row = [0] * at + [label] + [0] * (8 - at)
                self.assertEqual(ask_of(PAIR, accept([], row)), [[1, row[8]] if taken else [0]])

    def test_where_no_value_is_left(self):
        text = with_values(2, "a 1", "b 2")
        self.assertEqual(ask_of(text, accept([0], [0] * 8 + [1]), accept([0], [1] + [0] * 7 + [1]),
                                accept([0], [0, 0, 0, 0, 1, 0, 0, 0, 1])), [[1, 1], [0], [0]])

    def test_greatest_and_least_numbers(self):
        # Two of the least together are below what one number may be.
        self.assertEqual(ask_of(PAIR, accept([3], [LEAST] * 9), accept([3], [MOST] * 9),
                                accept([3], [0] * 5 + [LEAST, 0, LEAST, LEAST])), [[0], [0], [1, LEAST]])
        self.assertEqual(ask_of(PAIR, accept([3], [LEAST] * 5 + [0, LEAST, 0, LEAST])), [[0]])


class SecondPromise(unittest.TestCase):
    def test_accepted_labels_end_in_no_more_than_the_fewest(self):
        chance = random.Random(21)
        taken = 0
        for text, values, told in each_told():
            for turn in range(60):
                row = list(told)
                for at in range(chance.randrange(1, 6)):
                    row[chance.randrange(len(row))] += chance.choice([-2, -1, -1, 0, 1, 1, 2])
                row[-1] += chance.choice([-2, -1, 0, 1])
                answer = ask_of(text, accept(values, row))[0]
                if answer != [0]:
                    self.assertEqual(answer, [1, row[-1]])
                    self.assertLessEqual(row[-1], told[-1])
                    taken += 1
        self.assertGreater(taken, 50)

    def test_accepted_labels_end_in_no_more_than_any_parting_tree(self):
        for row in ([2, 1, 0, 2, 2, 0, 1], [2, 2, 0, 2, 1, 0, 1], [2, 1, 2, 2, 0, 0, 2, 2, 0, 1]):
            told = ask_of(PAIR, (13, [3], row), labels([3]))
            self.assertEqual(told[0][0], 1)
            self.assertLessEqual(told[1][-1], told[0][1])


class Refused(unittest.TestCase):
    def test_not_rising(self):
        for values in ([-1], [15], [1, 1], [2, 1], [LEAST], [MOST], [0, MOST], [0] * 15000, list(range(15600))):
            self.assertEqual(ask(labels(values), accept(values, [0] * 81), accept(values, []), (18,)),
                             [[-4], [-4], [-4], [4, 15, 1]])

    def test_more_than_5_holes(self):
        for text in SIX:
            told = ask_of(text, labels([]), labels([0]), accept([], []), accept([0], [0] * 729), accept([], [MOST]))
            self.assertEqual(told, [[-7]] * 5)

    def test_values_ahead_of_holes(self):
        for text in SIX:
            for values in ([-1], [70], [0, 0], [1, 0], [LEAST], [MOST]):
                told = ask_of(text, labels(values), accept(values, []), accept(values, [0] * 729))
                self.assertEqual(told, [[-4]] * 3)

    def test_5_holes_are_not_too_many(self):
        told = ask_of("code a\nholes 5\nchoose 2", labels([0]), accept([0], [0] * 243))
        self.assertEqual([len(told[0]), told[1]], [244, [1, 0]])


if __name__ == "__main__":
    unittest.main()
