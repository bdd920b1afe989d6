"""The document's words on trees read a second time, as plainly as can be, and held against the program's answers.

Of codes with few holes all trees there are are gone through; of others the fewest is worked out from the values
that are left, without the numbers that tell what's known.
"""

import functools
import itertools
import random
import unittest

from helper import FIRST, ask_of, letters, many_values, marks_in, with_values


class Reading:
    """What the document says of one code and some of its values."""

    def __init__(self, text, values):
        count = ask_of(text, (18,))[0]
        self.holes = count[0]
        self.marks = [set(told[1:]) for told in ask_of(text, *[(2, value) for value in range(count[1])])]
        self.wanted = set(values)
        self.all = frozenset(range(count[1]))
        self.fewest = functools.lru_cache(None)(self.work_out_fewest)
        self.depth = functools.lru_cache(None)(self.work_out_depth)

    def alike(self, left):
        return left <= self.wanted or not left & self.wanted

    def split(self, left, hole):
        falling = frozenset(value for value in left if hole in self.marks[value])
        return left - falling, falling

    def work_out_fewest(self, left, needled=frozenset()):
        if self.alike(left):
            return 0
        ways = []
        for hole in set(range(1, self.holes + 1)) - needled:
            stay, fall = self.split(left, hole)
            # A needling that changes nothing is one more, and no more: it can be left out.
            if stay and fall:
                ways.append(1 + self.fewest(stay, needled | {hole}) + self.fewest(fall, needled | {hole}))
        return min(ways)

    def work_out_depth(self, left):
        if self.alike(left):
            return 0
        sides = [self.split(left, hole) for hole in range(1, self.holes + 1)]
        return min(1 + max(self.depth(stay), self.depth(fall)) for stay, fall in sides if stay and fall)

    def tree(self, left, needled=frozenset()):
        if self.alike(left):
            return [1 if left and left <= self.wanted else 0]
        for hole in range(1, self.holes + 1):
            stay, fall = self.split(left, hole)
            now = needled | {hole}
            if stay and fall and hole not in needled:
                if self.fewest(left, needled) == 1 + self.fewest(stay, now) + self.fewest(fall, now):
                    return [2, hole] + self.tree(stay, now) + self.tree(fall, now)
        raise AssertionError("the fewest is met by no hole")

    def known(self, number):
        """The values that are left, and the holes not needled."""
        left = self.all
        free = []
        for hole in range(1, self.holes + 1):
            digit = number // 3 ** (hole - 1) % 3
            if digit == 2:
                free.append(hole)
            else:
                left = self.split(left, hole)[digit]
        return left, free

    def labels(self):
        told = []
        for number in range(3 ** self.holes):
            left, free = self.known(number)
            told.append(self.fewest(left, frozenset(range(1, self.holes + 1)) - frozenset(free)))
        return told

    def accepts(self, labels):
        if len(labels) != 3 ** self.holes:
            return [0]
        for number, label in enumerate(labels):
            left, free = self.known(number)
            bounds = [1 + labels[number - 2 * 3 ** (hole - 1)] + labels[number - 3 ** (hole - 1)] for hole in free]
            if label > (0 if self.alike(left) else min(bounds)):
                return [0]
        return [1, labels[-1]]

    def read(self, row, at, left):
        """Where the tree at a place ends, whether it parts, its needlings, its depth. IndexError if it breaks off."""
        if row[at] in (0, 1):
            parts = all((value in self.wanted) == (row[at] == 1) for value in left)
            return at + 1, parts, 0, 0
        if row[at] != 2 or not 1 <= row[at + 1] <= self.holes:
            raise IndexError
        stay, fall = self.split(left, row[at + 1])
        middle, stay_parts, stay_needlings, stay_depth = self.read(row, at + 2, stay)
        end, fall_parts, fall_needlings, fall_depth = self.read(row, middle, fall)
        return end, stay_parts and fall_parts, 1 + stay_needlings + fall_needlings, 1 + max(stay_depth, fall_depth)

    def check(self, row):
        try:
            end, parts, needlings, depth = self.read(row, 0, self.all)
        except IndexError:
            return [-2]
        return [int(parts), needlings, depth] if end == len(row) else [-2]

    def empty_ends(self, row, left=None, at=0):
        """The yes and no of a tree's row to which no value comes, and where it ends."""
        left = self.all if left is None else left
        if row[at] != 2:
            return ([] if left else [row[at]]), at + 1
        stay, fall = self.split(left, row[at + 1])
        found, middle = self.empty_ends(row, stay, at + 2)
        more, end = self.empty_ends(row, fall, middle)
        return found + more, end


def all_trees(holes):
    """Every tree that needles no hole twice on one way, as a row."""
    rows = [[0], [1]]
    for hole in holes:
        rest = all_trees([other for other in holes if other != hole])
        rows.extend([2, hole] + stay + fall for stay in rest for fall in rest)
    return rows


def trees_of(needlings, holes):
    """Every tree of just so many needlings, also such that needle a hole twice."""
    if needlings == 0:
        return [[0], [1]]
    return [[2, hole] + stay + fall for hole in range(1, holes + 1) for first in range(needlings)
            for stay in trees_of(first, holes) for fall in trees_of(needlings - 1 - first, holes)]


def outcome(row, holes):
    """For each set of notches, as a number, yes or no; the needlings; the depth."""
    def walk(at, notches):
        if row[at] != 2:
            return at + 1, [row[at] for one in notches], 0, 0
        bit = 1 << (row[at + 1] - 1)
        middle, stay, needlings, depth = walk(at + 2, [one for one in notches if not one & bit])
        end, fall, more, deep = walk(middle, [one for one in notches if one & bit])
        ends = iter(stay), iter(fall)
        return end, [next(ends[1 if one & bit else 0]) for one in notches], 1 + needlings + more, 1 + max(depth, deep)
    return walk(0, list(range(1 << holes)))[1:]


def least_of_all(rows, holes):
    """For each yes and no over all sets of notches the least needlings and the least depth of the trees."""
    least = {}
    for row in rows:
        ends, needlings, depth = outcome(row, holes)
        fewest, lowest = least.get(tuple(ends), (999, 999))
        least[tuple(ends)] = (min(fewest, needlings), min(lowest, depth))
    return least


def all_sets(count):
    for number in range(1 << count):
        yield [value for value in range(count) if number >> value & 1]


def told_values(holes, sets):
    return with_values(holes, *["%s %s" % (letters(at), marks_in(marks)) for at, marks in enumerate(sets)])


class AllTrees(unittest.TestCase):
    """The first promise: no tree has fewer needlings, or less depth, than told; and some tree has just so many."""

    def compare(self, text, least, values):
        reading = Reading(text, values)
        notches = [sum(1 << (hole - 1) for hole in marks) for marks in reading.marks]
        fitting = [bounds for ends, bounds in least.items()
                   if all(ends[one] == (value in reading.wanted) for value, one in enumerate(notches))]
        told = ask_of(text, (10, values), (12, values))
        self.assertEqual(told, [[min(needlings for needlings, depth in fitting)],
                                [min(depth for needlings, depth in fitting)]], (text, values))

    def test_of_up_to_3_holes(self):
        chance = random.Random(31)
        for holes in (1, 2, 3):
            least = least_of_all(all_trees(list(range(1, holes + 1))), holes)
            texts = ["code a\nholes %d\nchoose %d" % (holes, size) for size in range(1, holes + 1)]
            texts.append("code a\nholes %d\nweights %s" % (holes, ("1 to 1", "2 1 to 3", "4 2 1 to 7")[holes - 1]))
            for turn in range(8):
                size = chance.randrange(1, 1 << holes)
                texts.append(told_values(holes, chance.sample(range(1, 1 << holes), size)))
            for text in texts:
                count = ask_of(text, (18,))[0][1]
                for values in all_sets(count):
                    self.compare(text, least, values)

    def test_trees_that_needle_a_hole_twice(self):
        for holes, text in ((2, "code a\nholes 2\nweights 2 1 to 3"), (2, told_values(2, [1, 2, 3])),
                            (1, "code a\nholes 1\nweights 1 to 1"), (2, "code a\nholes 2\nchoose 1")):
            rows = sum([trees_of(needlings, holes) for needlings in range(4)], [])
            count = ask_of(text, (18,))[0][1]
            for values in all_sets(count):
                reading = Reading(text, values)
                fewest, depth = ask_of(text, (10, values), (12, values))
                parting = []
                for start in range(0, len(rows), 300):
                    some = rows[start:start + 300]
                    for row, told in zip(some, ask_of(text, *[(13, values, row) for row in some])):
                        self.assertEqual(told, reading.check(row))
                        parting.extend([told] if told[0] == 1 else [])
                self.assertEqual([min(told[1] for told in parting)], fewest)
                self.assertEqual([min(told[2] for told in parting)], depth)


def some_text(chance):
    kind = chance.randrange(3)
    holes = chance.choice([1, 2, 3, 3, 4, 4, 5, 5, 6, 8])
    if kind == 0:
        count = chance.randrange(1, min(70, (1 << holes) - 1) + 1)
        return told_values(holes, chance.sample(range(1, 1 << holes), count))
    if kind == 1:
        return "code a\nholes %d\nchoose %d" % (holes, chance.randrange(1, holes + 1))
    weights = [1 << at for at in reversed(range(holes))]
    if holes == 4 and chance.random() < 0.5:
        weights = [7, 4, 2, 1]
    last = chance.randrange(1, min(sum(weights), 69) + 1)
    return "code a\nholes %d\nweights %s to %d" % (holes, " ".join(str(weight) for weight in weights), last)


def some_values(chance, count):
    share = chance.choice([0, 0.1, 0.5, 0.5, 0.5, 0.9, 1])
    if chance.random() < 0.2:
        return [chance.randrange(count)]
    return [value for value in range(count) if chance.random() < share]


def bent(row, holes, chance):
    """A tree's row with a number taken out, put in or changed."""
    row = list(row)
    for turn in range(chance.choice([0, 1, 1, 1, 2])):
        at = chance.randrange(len(row) + 1)
        end = min(len(row), at + chance.choice([0, 1, 1, 1]))
        row[at:end] = chance.choice([[], [0], [1], [2], [3], [holes], [holes + 1], [2, 1, 0, 1], [-1]])
    return row[:300]


class SecondReading(unittest.TestCase):
    def check(self, text, values):
        reading = Reading(text, values)
        told = ask_of(text, (10, values), (11, values), (12, values))
        row = reading.tree(reading.all)
        self.assertEqual(told, [[reading.fewest(reading.all)], [0] + row, [reading.depth(reading.all)]], (text, values))
        checked = ask_of(text, (13, values, told[1][1:]))[0]
        self.assertEqual(checked[:2], [1, told[0][0]])
        self.assertGreaterEqual(checked[2], told[2][0])
        self.assertEqual(checked, reading.check(row))
        self.assertNotIn(1, reading.empty_ends(row)[0])
        if values and values == list(range(values[0], values[-1] + 1)):
            self.assertEqual(ask_of(text, (17, values[0], values[-1])), [told[0] + told[2]])
        return reading, row

    def check_labels(self, text, values, chance):
        reading = Reading(text, values)
        labels = reading.labels()
        self.assertEqual(ask_of(text, (14, values)), [[0] + labels], (text, values))
        for turn in range(6):
            row = list(labels)
            for at in range(turn):
                row[chance.randrange(len(row))] += chance.choice([-3, -1, -1, 1])
            row[-1] -= chance.choice([0, 1, 4])
            self.assertEqual(ask_of(text, (15, values, row)), [reading.accepts(row)], (text, values, row))

    def test_codes_of_each_kind(self):
        chance = random.Random(32)
        for turn in range(150):
            text = some_text(chance)
            count = ask_of(text, (18,))[0][1]
            self.check(text, some_values(chance, count))

    def test_labels(self):
        chance = random.Random(33)
        done = 0
        while done < 60:
            text = some_text(chance)
            told = ask_of(text, (18,))[0]
            if told[0] <= 5:
                self.check_labels(text, some_values(chance, told[1]), chance)
                done += 1

    def test_8_holes_with_none_all_one_and_some(self):
        chance = random.Random(34)
        texts = ["code a\nholes 8\nchoose 4", many_values(70), "code a\nholes 8\nweights 128 64 32 16 8 4 2 1 to 69",
                 "code a\nholes 8\nweights 34 21 13 8 5 3 2 1 to 69"]
        for text in texts:
            for values in ([], list(range(70)), [0], [69], [33], list(range(20, 50)),
                           [value for value in range(70) if chance.random() < 0.5],
                           [value for value in range(70) if chance.random() < 0.1]):
                self.check(text, values)

    def test_few_holes_with_none_all_one_and_some(self):
        for text in (FIRST, "code a\nholes 1\nchoose 1", "code a\nholes 5\nchoose 2",
                     told_values(4, [3, 5, 9, 14, 8])):
            count = ask_of(text, (18,))[0][1]
            for values in ([], list(range(count)), [0], [count - 1], list(range(0, count, 2)),
                           list(range(1, count, 3))):
                self.check(text, values)

    def test_every_range(self):
        for text in (FIRST, "code a\nholes 5\nchoose 2"):
            count = ask_of(text, (18,))[0][1]
            for first, last in itertools.combinations_with_replacement(range(count), 2):
                self.check(text, list(range(first, last + 1)))

    def test_rows_that_may_be_trees(self):
        chance = random.Random(35)
        seen = {0: 0, 1: 0, -2: 0}
        for turn in range(60):
            text = some_text(chance)
            count = ask_of(text, (18,))[0]
            values = some_values(chance, count[1])
            reading, row = self.check(text, values)
            rows = [bent(row, count[0], chance) for at in range(30)]
            told = ask_of(text, *[(13, values, other) for other in rows])
            self.assertEqual(told, [reading.check(other) for other in rows], (text, values, rows))
            for answer in told:
                seen[answer[0]] += 1
        self.assertGreater(min(seen.values()), 30)


if __name__ == "__main__":
    unittest.main()
