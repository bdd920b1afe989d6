"""Lists of calls: any order, up to 400 calls and 16000 numbers, nothing changed, nothing kept."""

import ast
import os
import random
import re
import time
import unittest

from helper import FIRST, LEAST, MOST, ask, code, flat, find, many_values, parted, row, with_values
from notchcodes.field import answers

TEXTS = [FIRST, "code a\nholes 8\nchoose 4", "code b\nholes 1\nchoose 1", "code c\nholes 3\nweights 3 2 1 to 5",
         with_values(5, "oak 1 2", "ash 3", "elm 1 2 5"), many_values(20)]
WRONG = ["", "code", "code a\nholes 9", "code a\nholes 4\nchoose 5", "code  a", FIRST + "\n", many_values(20) + " "]


# The calls of which a list has at most 12 together.
COSTLY = (10, 11, 12, 14, 15, 17)
VALUES = [[], [0], [1], [0, 1], [2, 4], [0, 2, 3, 5], [1, 0], [14], [15], [69], [70], [-1], [LEAST, MOST]]
ROWS = [[0], [1], [], [2, 1, 0, 1], [2, 1, 0, 2, 2, 0, 1], [2, 8, 1, 0], [2, 1, 0], [0, 0], [3], [2, MOST, 0, 1]]
NUMBERS = [0, 1, 2, 14, 15, 60, 61, 69, 70, -1, LEAST, MOST]
LABELS = [[], [0] * 3, [0] * 27, [0] * 81, [-1] * 81, [1] * 81, [0] * 80 + [LEAST], [0] * 243, [MOST]]


def some_call(chance, numbers=range(19)):
    number = chance.choice(numbers)
    if number == 0:
        return code(chance.choice(TEXTS + WRONG))
    if number == 5:
        return find(chance.choice(["0", "14", "oak", "b", "", "x" * 40]))
    if number in (2, 4, 16):
        return (number, chance.choice(NUMBERS))
    if number in (3, 6):
        return (number, chance.choice([[], [1], [2], [1, 2], [2, 1], [3, 8], [9], [0], [LEAST, MOST]]))
    if number in (10, 11, 12, 14):
        return (number, chance.choice(VALUES))
    if number == 13:
        return (number, chance.choice(VALUES), chance.choice(ROWS))
    if number == 15:
        return (number, chance.choice(VALUES), chance.choice(LABELS))
    if number == 17:
        return (number, chance.choice(NUMBERS), chance.choice(NUMBERS))
    return (number,)


def some_calls(chance, count):
    """So many calls, just 12 of them (or all) costly ones, in any order."""
    cheap = [number for number in range(19) if number not in COSTLY]
    costly = min(12, count)
    calls = [some_call(chance, COSTLY) for at in range(costly)]
    calls += [some_call(chance, cheap) for at in range(count - costly)]
    chance.shuffle(calls)
    return calls


class Orders(unittest.TestCase):
    def test_each_call_is_on_the_code_that_the_calls_before_left(self):
        chance = random.Random(1)
        for turn in range(20):
            calls = some_calls(chance, 60)
            told = ask(*calls)
            left = FIRST
            for call, answer in zip(calls, told):
                self.assertEqual(ask(code(left), call)[1], answer)
                if call[0] == 0 and answer[0] == 0:
                    left = bytes(call[1]).decode("latin-1")

    def test_400_calls(self):
        chance = random.Random(2)
        calls = some_calls(chance, 400)
        self.assertEqual(len(ask(*calls)), 400)

    def test_400_times_the_same(self):
        for call in ((1,), (7,), (8,), (9,), (2, 69), (4, 69), (6, []), (16, 60), (18,), (13, [0], [2, 8, 0, 1])):
            told = ask(code(TEXTS[1]), *[call] * 399)
            self.assertEqual(told[1:], [told[1]] * 399)

    def test_16000_numbers(self):
        calls = [code([97] * 15900), (1,), (3, [1] * 80), (9,), (2, 3)]
        while len(flat(calls)) < 16000:
            calls.append((7,))
        self.assertEqual(len(flat(calls)), 16000)
        told = ask(*calls)
        self.assertEqual(told[:3], [[-1], [0, len(FIRST)] + row(FIRST), [-4]])
        self.assertEqual(told[4:], [[2, 3, 4]] + [[0, 0, 1]] * (len(calls) - 5))

    def test_16000_numbers_of_many_codes(self):
        text = many_values(70)
        calls = []
        while len(flat(calls)) + len(text) + 4 <= 16000:
            calls.extend([code(text), (2, 69)])
        told = ask(*calls)
        self.assertEqual(told, [[0, 8, 70], [3, 2, 3, 7]] * (len(calls) // 2))

    def test_lists_of_15900_numbers_in_each_call_with_a_list(self):
        for number, refusal in ((0, -1), (3, -4), (5, -1), (6, -4), (10, -4), (11, -4), (12, -4), (14, -4)):
            for filling in (0, 1, LEAST, MOST):
                self.assertEqual(ask((number, [filling] * 15900), (2, 1)), [[refusal], [1, 4]])
        for filling in (0, 1, LEAST, MOST):
            self.assertEqual(ask((13, [filling] * 15600, [filling] * 300), (2, 1)), [[-4], [1, 4]])
            self.assertEqual(ask((15, [filling] * 15900, []), (2, 1)), [[-4], [1, 4]])
            self.assertEqual(ask((15, [], [filling] * 15900), (2, 1)), [[0], [1, 4]])

    def test_empty_lists(self):
        self.assertEqual(ask((0, []), (3, []), (5, []), (6, [])), [[-1000], [1, 0], [-5], [15] + list(range(15))])
        self.assertEqual(ask((10, []), (11, []), (12, []), (13, [], []), (14, []), (15, [], [])),
                         [[0], [0, 0], [0], [-2], [0] + [0] * 81, [0]])


class Time(unittest.TestCase):
    SECONDS = 10

    def within_some_seconds(self, *calls):
        numbers = flat(calls)
        self.assertEqual((len(calls), len(numbers) <= 16000), (400, True))
        start = time.monotonic()
        told = parted(answers(numbers), 400)
        self.assertLess(time.monotonic() - start, self.SECONDS)
        return told

    def test_12_costly_calls_on_8_holes_and_70_values(self):
        some = list(range(0, 70, 2))
        for text in ("code a\nholes 8\nchoose 4", many_values(70), "code a\nholes 8\nweights 34 21 13 8 5 3 2 1 to 69"):
            for costly in ([(10, some)] * 12, [(11, some)] * 12, [(12, some)] * 12, [(17, 20, 50)] * 12,
                           [(10, some), (11, some), (12, some), (17, 3, 40), (14, some), (15, some, [0])] * 2):
                told = self.within_some_seconds(code(text), *costly, *[(18,)] * 387)
                self.assertEqual(told[0], [0, 8, 70])
                self.assertEqual(told[13:], [told[13]] * 387)

    def test_with_the_slowest_of_the_others(self):
        some = list(range(0, 70, 3))
        head = [code("code a\nholes 8\nchoose 4")] + [(17, 20, 50)] * 12
        row = [2, 1] * 8 + [0] * 9
        for call in ((7,), (8,), (9,), (13, some, []), (13, [], row), (16, 60)):
            self.within_some_seconds(*head, *[call] * 387)

    def test_labels_and_accept_of_5_holes(self):
        some = list(range(0, 31, 2))
        head = [code("code a\nholes 5\nweights 16 8 4 2 1 to 30")] + [(14, some)] * 6 + [(15, some, [0] * 243)] * 6
        told = self.within_some_seconds(*head, *[(18,)] * 387)
        self.assertEqual(told[7:13], [[1, 0]] * 6)


class NothingKept(unittest.TestCase):
    def test_one_call(self):
        self.assertEqual(answers([2, 5]), [3, 2, 2, 4])
        self.assertEqual(answers([2, 15]), [1, -5])

    def test_a_second_time_answers_as_the_first_did(self):
        chance = random.Random(3)
        for turn in range(10):
            numbers = flat(some_calls(chance, 100))
            first = answers(numbers)
            self.assertEqual(answers(list(numbers)), first)
            self.assertEqual(answers(numbers), first)

    def test_every_list_begins_with_the_first_code(self):
        answers(flat([code("code a\nholes 8\nchoose 4"), (10, [69]), (17, 0, 69)]))
        self.assertEqual(ask((1,)), [[0, len(FIRST)] + row(FIRST)])
        # 14 is the one value that's notched at all of the holes 2, 3 and 4.
        self.assertEqual(ask((18,), (10, [14]), (10, [69]), (17, 7, 14), (17, 0, 69)),
                         [[4, 15, 1], [3], [-4], [1, 1], [-5]])

    def test_two_lists_one_behind_another_know_nothing_of_each_other(self):
        chance = random.Random(6)
        for turn in range(10):
            one = flat(some_calls(chance, 40))
            two = flat(some_calls(chance, 40))
            first = answers(one)
            second = answers(two)
            self.assertEqual((answers(two), answers(one)), (second, first))

    def test_one_call_leaves_the_next_as_it_was(self):
        chance = random.Random(7)
        calls = [(10, [0, 2]), (11, [0, 2]), (12, [0, 2]), (13, [1], [2, 1, 0, 1]), (14, [3]), (15, [3], [0] * 81),
                 (16, 9), (17, 1, 4), (18,)]
        alone = [ask(call)[0] for call in calls]
        for turn in range(20):
            order = chance.sample(range(9), 9)
            self.assertEqual(ask(*[calls[at] for at in order]), [alone[at] for at in order])

    def test_what_is_given_back_is_not_what_is_kept(self):
        numbers = flat([code(FIRST), (1,), (4, 3), (1,), (4, 3)])
        told = answers(numbers)
        for at in range(len(told)):
            told[at] = 7
        self.assertEqual(parted(answers(numbers), 5)[3], [0, len(FIRST)] + row(FIRST))

    def test_what_is_handed_in_is_the_same_afterwards(self):
        chance = random.Random(4)
        numbers = flat(some_calls(chance, 200))
        kept = tuple(numbers)
        answers(numbers)
        self.assertEqual(tuple(numbers), kept)

    def test_what_is_handed_in_is_not_changed_for_a_while_either(self):
        chance = random.Random(5)
        numbers = Watched(flat(some_calls(chance, 100)))
        answers(numbers)
        self.assertFalse(numbers.changed)


class Readme(unittest.TestCase):
    def test_examples(self):
        with open(os.path.join(os.path.dirname(os.path.dirname(os.path.abspath(__file__))), "README.md")) as file:
            examples = re.findall(r"^answers\((.*)\) +# (.*)$", file.read(), re.MULTILINE)
        self.assertEqual(len(examples), 2)
        for given, told in examples:
            self.assertEqual(answers(ast.literal_eval(given)), ast.literal_eval(told))


class Watched(list):
    """A list that tells whether anything was done to it."""

    changed = False

    def note(self, *given, **named):
        self.changed = True

    append = extend = insert = pop = remove = clear = sort = reverse = note
    __setitem__ = __delitem__ = __iadd__ = __imul__ = note


if __name__ == "__main__":
    unittest.main()
