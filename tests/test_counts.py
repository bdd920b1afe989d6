"""Calls 16 (most) and 18 (counts), and what the third promise says of clean codes' values."""

import itertools
import math
import unittest

from helper import FIRST, LEAST, MOST, ask, ask_of, code, letters, many_values, marks_in, with_values


def most(holes):
    return ask((16, holes))[0]


def covers(one, other):
    return one & other == one


def chains(holes):
    """All sets of so many holes, in chains in each of which every set is among the next one."""
    found = [[0]]
    for hole in range(holes):
        longer = [chain + [chain[-1] | 1 << hole] for chain in found]
        shorter = [[marks | 1 << hole for marks in chain[:-1]] for chain in found]
        found = longer + [chain for chain in shorter if chain]
    return found


class Most(unittest.TestCase):
    def test_told(self):
        self.assertEqual([most(holes) for holes in range(1, 9)], [[1], [2], [3], [6], [10], [20], [35], [70]])

    def test_up_to_60(self):
        for holes in range(1, 61):
            self.assertEqual(most(holes), [math.comb(holes, holes // 2)])
        self.assertEqual(most(60), [118264581564861424])
        self.assertEqual(most(59), [59132290782430712])

    def test_refused(self):
        for holes in (0, 61, -1, 62, LEAST, MOST):
            self.assertEqual(ask((16, holes), (18,)), [[-2], [4, 15, 1]])

    def test_whatever_the_code(self):
        for text in ("code a\nholes 1\nchoose 1", "code a\nholes 8\nchoose 4", many_values(70)):
            self.assertEqual(ask_of(text, (16, 5), (16, 60), (16, 0)), [[10], [118264581564861424], [-2]])


class Counts(unittest.TestCase):
    def test_kinds(self):
        self.assertEqual(ask((18,)), [[4, 15, 1]])
        self.assertEqual(ask_of("code a\nholes 5\nchoose 2", (18,)), [[5, 10, 2]])
        self.assertEqual(ask_of(with_values(6, "oak 1 2", "ash 3"), (18,)), [[6, 2, 0]])
        self.assertEqual(ask_of("code a\nholes 1\nweights 1 to 1", (18,)), [[1, 2, 1]])
        self.assertEqual(ask_of("code a\nholes 8\nchoose 4", (18,)), [[8, 70, 2]])
        self.assertEqual(ask_of(many_values(70), (18,)), [[8, 70, 0]])

    def test_after_a_refused_text(self):
        told = ask(code("code a\nholes 5\nchoose 2"), code(FIRST + "\n"), (18,), code("code a\nholes 1\nvalue a 2"),
                   (18,))
        self.assertEqual(told[2::2], [[5, 10, 2]] * 2)


class ThirdPromise(unittest.TestCase):
    def test_by_choose_there_are_as_many_as_told(self):
        for holes in range(1, 9):
            counts = []
            for size in range(1, holes + 1):
                told = ask_of("code a\nholes %d\nchoose %d" % (holes, size), (7,), (18,), (16, holes))
                self.assertEqual(told[0], [1])
                self.assertLessEqual(told[1][1], told[2][0])
                counts.append(told[1][1])
            self.assertEqual([max(counts)], most(holes))

    def test_all_codes_of_up_to_3_holes(self):
        for holes in (1, 2, 3):
            biggest = 0
            sets = range(1, 1 << holes)
            for size in range(1, len(sets) + 1):
                for chosen in itertools.combinations(sets, size):
                    values = ["%s %s" % (letters(at), marks_in(marks)) for at, marks in enumerate(chosen)]
                    told = ask_of(with_values(holes, *values), (7,))[0]
                    pairs = itertools.permutations(chosen, 2)
                    self.assertEqual(told == [1], not any(covers(one, other) for one, other in pairs))
                    if told == [1]:
                        biggest = max(biggest, size)
            self.assertEqual(most(holes), [biggest])

    def test_sets_stand_in_as_many_chains_as_told(self):
        # A clean code has at most one value in each chain.
        for holes in range(1, 13):
            found = chains(holes)
            self.assertEqual(sorted(sum(found, [])), list(range(1 << holes)))
            for chain in found:
                self.assertTrue(all(covers(one, other) for one, other in zip(chain, chain[1:])))
            self.assertEqual(most(holes), [len(found)])


if __name__ == "__main__":
    unittest.main()
