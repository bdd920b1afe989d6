"""Lists of calls: any order, up to 400 calls and 16000 numbers, nothing changed, nothing kept."""

import random
import unittest

from helper import FIRST, LEAST, MOST, ask, code, flat, find, many_values, parted, row, with_values
from notchcodes.field import answers

TEXTS = [FIRST, "code a\nholes 8\nchoose 4", "code b\nholes 1\nchoose 1", "code c\nholes 3\nweights 3 2 1 to 5",
         with_values(5, "oak 1 2", "ash 3", "elm 1 2 5"), many_values(20)]
WRONG = ["", "code", "code a\nholes 9", "code a\nholes 4\nchoose 5", "code  a", FIRST + "\n", many_values(20) + " "]


def some_call(chance):
    number = chance.randrange(10)
    if number == 0:
        return code(chance.choice(TEXTS + WRONG))
    if number == 5:
        return find(chance.choice(["0", "14", "oak", "b", "", "x" * 40]))
    if number in (2, 4):
        return (number, chance.choice([0, 1, 2, 14, 15, 69, 70, -1, LEAST, MOST]))
    if number in (3, 6):
        return (number, chance.choice([[], [1], [2], [1, 2], [2, 1], [3, 8], [9], [0], [LEAST, MOST]]))
    return (number,)


class Orders(unittest.TestCase):
    def test_each_call_is_on_the_code_that_the_calls_before_left(self):
        chance = random.Random(1)
        for turn in range(20):
            calls = [some_call(chance) for at in range(60)]
            told = ask(*calls)
            left = FIRST
            for call, answer in zip(calls, told):
                self.assertEqual(ask(code(left), call)[1], answer)
                if call[0] == 0 and answer[0] == 0:
                    left = bytes(call[1]).decode("latin-1")

    def test_400_calls(self):
        chance = random.Random(2)
        calls = [some_call(chance) for at in range(400)]
        self.assertEqual(len(ask(*calls)), 400)

    def test_400_times_the_same(self):
        for call in ((1,), (7,), (8,), (9,), (2, 69), (4, 69), (6, [])):
            told = ask(code(TEXTS[1]), *[call] * 399)
            self.assertEqual(told[1:], [told[1]] * 399)

    def test_16000_numbers(self):
        calls = [code([97] * 15900), (1,), (3, [1] * 80), (9,), (2, 3)]
        while len(flat(calls)) < 16000:
            calls.append((7,))
        self.assertEqual(len(flat(calls)), 16000)
        told = ask(*calls)
        self.assertEqual(told[:3], [[-1], [0, len(FIRST)] + row(FIRST), [-4]])
        self.assertEqual(told[4:], [[2, 3, 4]] + [[0, 0, 1]] * (len(calls) - 5))

    def test_16000_numbers_of_many_codes(self):
        text = many_values(70)
        calls = []
        while len(flat(calls)) + len(text) + 4 <= 16000:
            calls.extend([code(text), (2, 69)])
        told = ask(*calls)
        self.assertEqual(told, [[0, 8, 70], [3, 2, 3, 7]] * (len(calls) // 2))

    def test_lists_of_15900_numbers_in_each_call_with_a_list(self):
        for number, refusal in ((0, -1), (3, -4), (5, -1), (6, -4)):
            for filling in (0, 1, LEAST, MOST):
                self.assertEqual(ask((number, [filling] * 15900), (2, 1)), [[refusal], [1, 4]])

    def test_empty_lists(self):
        self.assertEqual(ask((0, []), (3, []), (5, []), (6, [])), [[-1000], [1, 0], [-5], [15] + list(range(15))])


class NothingKept(unittest.TestCase):
    def test_one_call(self):
        self.assertEqual(answers([2, 5]), [3, 2, 2, 4])
        self.assertEqual(answers([2, 15]), [1, -5])

    def test_a_second_time_answers_as_the_first_did(self):
        chance = random.Random(3)
        for turn in range(10):
            numbers = flat([some_call(chance) for at in range(100)])
            first = answers(numbers)
            self.assertEqual(answers(list(numbers)), first)
            self.assertEqual(answers(numbers), first)

    def test_every_list_begins_with_the_first_code(self):
        answers(flat([code("code a\nholes 8\nchoose 4")]))
        self.assertEqual(ask((1,)), [[0, len(FIRST)] + row(FIRST)])

    def test_what_is_given_back_is_not_what_is_kept(self):
        numbers = flat([code(FIRST), (1,), (4, 3), (1,), (4, 3)])
        told = answers(numbers)
        for at in range(len(told)):
            told[at] = 7
        self.assertEqual(parted(answers(numbers), 5)[3], [0, len(FIRST)] + row(FIRST))

    def test_what_is_handed_in_is_the_same_afterwards(self):
        chance = random.Random(4)
        numbers = flat([some_call(chance) for at in range(200)])
        kept = tuple(numbers)
        answers(numbers)
        self.assertEqual(tuple(numbers), kept)

    def test_what_is_handed_in_is_not_changed_for_a_while_either(self):
        chance = random.Random(5)
        numbers = Watched(flat([some_call(chance) for at in range(100)]))
        answers(numbers)
        self.assertFalse(numbers.changed)


class Watched(list):
    """A list that tells whether anything was done to it."""

    changed = False

    def note(self, *given, **named):
        self.changed = True

    append = extend = insert = pop = remove = clear = sort = reverse = note
    __setitem__ = __delitem__ = __iadd__ = __imul__ = note


if __name__ == "__main__":
    unittest.main()
