"""The document read a second time, as plainly as can be, and held against the program's answers.

A text is judged word by word: whether the next word can stand depends only on the words before it.
"""

import itertools
import random
import re
import unittest

from helper import FIRST, ask, code, letters, many_values, with_values


def words_of(text):
    """Each word with its place; a line without a byte has none."""
    found = []
    place = 0
    for line in re.split("(\n)", text):
        if line:
            for word in [line] if line == "\n" else line.split(" "):
                found.append((place, word))
                place += len(word) + 1
            place -= 1
    return found


def decimal(word, least, most):
    return re.fullmatch("0|[1-9][0-9]*", word) is not None and least <= int(word) <= most


def greedy(number, weights):
    marks = []
    for place, weight in enumerate(weights, start=1):
        if weight <= number:
            marks.append(place)
            number -= weight
    return tuple(marks) if number == 0 else None


def value_lines(words):
    lines = [[]]
    for word in words:
        if word == "\n":
            lines.append([])
        else:
            lines[-1].append(word)
    return lines


def marks_are_new(lines):
    return lines[-1][2:] not in [line[2:] for line in lines[:-1]]


def in_weights(tail, holes, word):
    if len(tail) < holes:
        return decimal(word, 1, int(tail[-1]) - 1 if tail else 1000)
    if len(tail) == holes:
        return word == "to"
    weights = [int(weight) for weight in tail[:holes]]
    return len(tail) == holes + 1 and decimal(word, 1, 69) and all(
        greedy(number, weights) is not None for number in range(int(word) + 1))


def in_values(words, holes, word):
    lines = value_lines(words)
    line = lines[-1]
    if len(line) == 0:
        return word == "value"
    if len(line) == 1:
        return re.fullmatch("[a-z]{1,12}", word) is not None and word not in [other[1] for other in lines[:-1]]
    if len(line) > 2 and word == "\n":
        return len(lines) < 70 and marks_are_new(lines)
    return decimal(word, 1 + (int(line[-1]) if len(line) > 2 else 0), holes)


def can_stand(before, word):
    at = len(before)
    if at == 1:
        return re.fullmatch("[a-z]{1,12}", word) is not None
    if at == 4:
        return decimal(word, 1, 8)
    if at < 6:
        return word == ("code", "", "\n", "holes", "", "\n")[at]
    if at == 6:
        return word in ("weights", "choose", "value")
    holes = int(before[4])
    if before[6] == "weights":
        return in_weights(before[7:], holes, word)
    if before[6] == "choose":
        return at == 7 and decimal(word, 1, holes)
    return in_values(before[6:], holes, word)


def is_whole(words):
    if len(words) < 8:
        return False
    if words[6] == "weights":
        return len(words) == 7 + int(words[4]) + 2
    if words[6] == "value":
        lines = value_lines(words[6:])
        return len(lines[-1]) > 2 and marks_are_new(lines)
    return True


def place_of_fault(text):
    before = []
    for place, word in words_of(text):
        if not can_stand(before, word):
            return place
        before.append(word)
    return None if is_whole(before) else len(text)


def all_marks(text):
    """Names and marks of all values of a text without fault."""
    words = [word for place, word in words_of(text)]
    holes = int(words[4])
    if words[6] == "value":
        lines = value_lines(words[6:])
        return [line[1] for line in lines], [tuple(int(mark) for mark in line[2:]) for line in lines]
    if words[6] == "choose":
        sets = list(itertools.combinations(range(1, holes + 1), int(words[7])))
    else:
        weights = [int(word) for word in words[7:7 + holes]]
        sets = [greedy(number, weights) for number in range(int(words[-1]) + 1)]
    return [str(value) for value in range(len(sets))], sets


def clean(sets):
    covered = [[0, value, other] for value, marks in enumerate(sets) for other, others in enumerate(sets)
               if value != other and set(marks) <= set(others)]
    return min(covered) if covered else [1]


def nearest(sets):
    pairs = itertools.combinations(range(len(sets)), 2)
    return list(min([(len(set(sets[one]) ^ set(sets[two])), one, two) for one, two in pairs], default=(0,)))


def slips(sets, holes):
    found = [[value, hole, sets.index(tuple(sorted(marks + (hole,))))] for value, marks in enumerate(sets)
             for hole in range(1, holes + 1) if hole not in marks and tuple(sorted(marks + (hole,))) in sets]
    return [len(found)] + sum(found, [])


SEEDS = [FIRST, "code a\nholes 5\nchoose 2", "code b\nholes 8\nweights 128 64 32 16 8 4 2 1 to 69",
         "code c\nholes 3\nweights 1000 2 1 to 3", "code d\nholes 1\nweights 1 to 1",
         with_values(4, "a 1 2", "b 2 3", "c 1 3", "d 4"), with_values(8, "oak 1 8", "ash 1", "elm 1 2 8"),
         many_values(12), many_values(70)]
PIECES = [" ", "\n", "0", "1", "2", "8", "9", "a", "code", "holes", "weights", "choose", "value", "to", " 1", " 2",
          " 8", "\nvalue z 3", "\nvalue a 1", "1000", "1001", "69", "70", "abcdefghijklm", "\t", "\xff", "A"]


def bent(text, chance):
    """The text with a piece put in, taken out or put in another's place, once or more."""
    for turn in range(chance.choice([1, 1, 1, 2, 3])):
        start = chance.randrange(len(text) + 1)
        end = min(len(text), start + chance.choice([0, 0, 1, 1, 2, 6]))
        text = text[:start] + chance.choice(PIECES + [""] * 8) + text[end:]
    return text


def with_other_word(text, chance):
    words = re.split("([ \n])", text)
    words[chance.randrange(len(words))] = chance.choice(PIECES)
    return "".join(words)


def some_values(chance):
    """A code of told values, mostly without fault."""
    holes = chance.randrange(1, 9)
    lines = []
    for at in range(chance.choice([1, 2, 3, 5, 9, 20])):
        marks = sorted(chance.sample(range(1, holes + 1), chance.randrange(1, holes + 1)))
        if chance.random() < 0.02:
            marks.append(marks[-1])
        lines.append(" ".join([letters(at if chance.random() < 0.98 else 0)] + [str(mark) for mark in marks]))
    return with_values(holes, *lines)


def some_weights(chance):
    holes = chance.randrange(1, 9)
    weights = sorted(chance.sample(range(1, chance.choice([9, 14, 70])), holes), reverse=True)
    if chance.random() < 0.6:
        weights = sorted(set(weights[:-1] + [1]), reverse=True)
    last = chance.randrange(0, chance.choice([4, 20, 72]))
    return "code w\nholes %d\nweights %s to %d" % (len(weights), " ".join(str(weight) for weight in weights), last)


class SecondReading(unittest.TestCase):
    def check(self, text):
        row = list(text.encode("latin-1"))
        if len(row) > 2000:
            self.assertEqual(ask(code(row)), [[-1]])
            return False
        place = place_of_fault(text)
        if place is not None:
            self.assertEqual(ask(code(row), (2, 5)), [[-1000 - place], [2, 2, 4]], text)
            return False
        self.check_values(text, row)
        return True

    def check_values(self, text, row):
        names, sets = all_marks(text)
        holes = int(text.split("\n")[1].split(" ")[1])
        told = ask(code(row), (1,), (7,), (8,), (9,))
        self.assertEqual(told, [[0, holes, len(sets)], [0, len(row)] + row, clean(sets), nearest(sets),
                                slips(sets, holes)], text)
        told = ask(code(row), *[(2, value) for value in range(len(sets))])[1:]
        self.assertEqual(told, [[len(marks)] + list(marks) for marks in sets], text)
        told = ask(code(row), *[(4, value) for value in range(len(sets))])[1:]
        self.assertEqual(told, [[0, len(name)] + list(name.encode()) for name in names], text)
        told = ask(code(row), *[(5, list(name.encode())) for name in names])[1:]
        self.assertEqual(told, [[value] for value in range(len(sets))], text)

    def check_holes(self, text):
        """Every set of holes, as marks and as needled ones."""
        names, sets = all_marks(text)
        holes = int(text.split("\n")[1].split(" ")[1])
        for size in range(holes + 1):
            for chosen in itertools.combinations(range(1, holes + 1), size):
                told = ask(code(text), (3, list(chosen)), (6, list(chosen)))[1:]
                falling = [value for value, marks in enumerate(sets) if set(chosen) <= set(marks)]
                has = [1, sets.index(chosen)] if chosen in sets else [0]
                self.assertEqual(told, [has, [len(falling)] + falling], text)

    def test_seeds(self):
        for text in SEEDS:
            self.assertTrue(self.check(text))
            self.check_holes(text)

    def test_every_beginning_of_a_text(self):
        for text in SEEDS[:7]:
            for end in range(len(text)):
                self.check(text[:end])
                self.check(text[:end] + " ")
                self.check(text[:end] + "\n")
                self.check(text[:end] + " " + text[end:])
                self.check(text[:end] + "\n" + text[end:])

    def test_bent_texts(self):
        chance = random.Random(11)
        for turn in range(6000):
            text = chance.choice(SEEDS)
            self.check(bent(text, chance) if turn % 2 else with_other_word(text, chance))

    def test_told_values(self):
        chance = random.Random(12)
        taken = 0
        for turn in range(600):
            taken += self.check(some_values(chance))
        self.assertGreater(taken, 100)

    def test_weights(self):
        chance = random.Random(13)
        taken = 0
        for turn in range(1500):
            taken += self.check(some_weights(chance))
        self.assertGreater(taken, 100)

    def test_sets_of_holes(self):
        chance = random.Random(14)
        for turn in range(20):
            text = some_values(chance)
            if place_of_fault(text) is None:
                self.check_holes(text)


if __name__ == "__main__":
    unittest.main()
