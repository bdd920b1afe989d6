"""Calls 0 (code) and 1 (text): what a code's text is, and the place of its fault."""

import unittest

from helper import (FIRST, LEAST, MOST, ask, ask_of, code, fault, find, letters, many_values, marks_in, row,
                    with_values)

HEAD = "code a\nholes 4\n"


def padded(size):
    """A code's text of just so many bytes: 70 values with long names and many marks."""
    values = ["%s %s" % (letters(at).rjust(12, "q"), marks_in(255 - at)) for at in range(70)]
    text = with_values(8, *values)
    while len(text) > size:
        at = text.index("qq")
        text = text[:at] + text[at + 1:]
    assert len(text) == size
    return text


class Taken(unittest.TestCase):
    def test_weights(self):
        self.assertEqual(ask(code("code months\nholes 4\nweights 7 4 2 1 to 12"))[0], [0, 4, 13])

    def test_choose(self):
        self.assertEqual(ask(code("code digit\nholes 5\nchoose 2"))[0], [0, 5, 10])

    def test_values(self):
        self.assertEqual(ask(code(with_values(6, "oak 1 2", "ash 3", "elm 1 2 6")))[0], [0, 6, 3])

    def test_text_at_the_beginning(self):
        self.assertEqual(ask((1,))[0], [0, len(FIRST)] + row(FIRST))

    def test_the_code_at_the_beginning(self):
        self.assertEqual(ask((2, 14), (2, 15), (4, 14)), [[4, 1, 2, 3, 4], [-5], [0, 2, 49, 52]])

    def test_text_is_the_one_that_was_told(self):
        for text in ("code b\nholes 1\nchoose 1", "code c\nholes 2\nweights 2 1 to 3", with_values(3, "x 1 3", "y 2")):
            self.assertEqual(ask_of(text, (1,))[0], [0, len(text)] + row(text))

    def test_the_newest_code_is_the_code(self):
        newest = "code c\nholes 2\nchoose 2"
        told = ask(code("code b\nholes 3\nchoose 1"), code(newest), (1,))
        self.assertEqual(told[2], [0, len(newest)] + row(newest))

    def test_holes_from_1_to_8(self):
        for holes in range(1, 9):
            self.assertEqual(ask(code("code a\nholes %d\nchoose 1" % holes))[0], [0, holes, holes])

    def test_choose_from_1_to_all(self):
        counts = {1: [1], 4: [4, 6, 4, 1], 8: [8, 28, 56, 70, 56, 28, 8, 1]}
        for holes, told in counts.items():
            for size, count in enumerate(told, start=1):
                self.assertEqual(ask(code("code a\nholes %d\nchoose %d" % (holes, size)))[0], [0, holes, count])

    def test_to_from_1_to_69(self):
        for last in range(1, 70):
            text = "code a\nholes 7\nweights 64 32 16 8 4 2 1 to %d" % last
            self.assertEqual(ask(code(text))[0], [0, 7, last + 1])

    def test_1_and_70_values(self):
        self.assertEqual(ask(code(many_values(1)))[0], [0, 8, 1])
        self.assertEqual(ask(code(many_values(70)))[0], [0, 8, 70])

    def test_names_of_1_and_12_letters(self):
        for name in ("a", "z", "abcdefghijkl", "zzzzzzzzzzzz", "code", "value"):
            self.assertIsNone(fault("code %s\nholes 1\nchoose 1" % name))
            self.assertIsNone(fault(with_values(1, name + " 1")))

    def test_weights_1_and_1000(self):
        self.assertEqual(ask(code("code a\nholes 2\nweights 1000 1 to 1"))[0], [0, 2, 2])
        self.assertEqual(ask(code("code a\nholes 1\nweights 1 to 1"))[0], [0, 1, 2])

    def test_text_of_2000_bytes(self):
        text = padded(2000)
        self.assertEqual(ask(code(text), (1,)), [[0, 8, 70], [0, 2000] + row(text)])


class NotBytes(unittest.TestCase):
    def test_too_long(self):
        self.assertEqual(ask(code(padded(2001)))[0], [-1])
        self.assertEqual(ask(code([97] * 15900))[0], [-1])
        self.assertEqual(ask(code([32] * 2001))[0], [-1])

    def test_2000_bytes_are_looked_at(self):
        self.assertEqual(fault([97] * 2000), 0)
        self.assertEqual(fault("code a\nholes 4\nchoose " + "1" * 1978), 22)

    def test_no_byte(self):
        for number in (-1, 256, LEAST, MOST, -1000):
            self.assertEqual(ask(code([number]))[0], [-1])
            self.assertEqual(ask(code(row(FIRST) + [number]))[0], [-1])
            self.assertEqual(ask(code([0] + [number] + row(FIRST)))[0], [-1])

    def test_every_byte_is_a_byte(self):
        self.assertEqual(fault([0]), 0)
        self.assertEqual(fault([255]), 0)
        self.assertEqual(fault(list(range(256))), 0)

    def test_15900_numbers_that_are_none(self):
        self.assertEqual(ask(code([LEAST] * 15900), (1,)), [[-1], [0, len(FIRST)] + row(FIRST)])


class StaysAsItWas(unittest.TestCase):
    def test_after_refusals(self):
        kept = "code kept\nholes 3\nvalue b 1 2\nvalue a 3"
        refused = [[300], row("code"), row(kept + "\n"), row("code x\nholes 8\nchoose 9"), [10] * 2001,
                   row("code x\nholes 2\nweights 3 2 to 1"), row("code x\nholes 3\nvalue b 3\nvalue a 3")]
        for text in refused:
            told = ask(code(kept), code(text), (1,), (2, 0), (3, [3]), (4, 1), find("b"), (6, []), (7,), (8,), (9,))
            self.assertLess(told[1][0], 0)
            self.assertEqual(len(told[1]), 1)
            self.assertEqual(told[2:], [[0, len(kept)] + row(kept), [2, 1, 2], [1, 1], [0, 1, 97], [0],
                                        [2, 0, 1], [1], [3, 0, 1], [0]])


class Heads(unittest.TestCase):
    def test_words_missing_at_the_end(self):
        whole = "code a\nholes 4\nweights 7 4 2 1 to 14"
        for end in ("", "code", "code a", "code a\n", "code a\nholes", "code a\nholes 4", "code a\nholes 4\n",
                    "code a\nholes 4\nweights", "code a\nholes 4\nweights 7", "code a\nholes 4\nweights 7 4 2 1",
                    "code a\nholes 4\nweights 7 4 2 1 to"):
            self.assertTrue(whole.startswith(end))
            self.assertEqual(fault(end), len(end))
        for end in ("choose", "value", "value a", "value a 1\n", "value a 1\nvalue", "value a 1\nvalue b"):
            self.assertEqual(fault(HEAD + end), len(HEAD + end))

    def test_words_that_are_others(self):
        for text, place in (("cod a", 0), ("codes a", 0), ("Code a", 0), ("a", 0), ("\n", 0), ("code\n", 4),
                            ("code a b", 7), ("code a holes 4", 7), ("code a\n\n", 7), ("code a\nhole 4", 7),
                            ("code a\nholes\n", 12), ("code a\nholes 4 5", 15), ("code a\nholes 4\n\n", 15),
                            ("code a\nholes 4\nweight 1", 15), ("code a\nholes 4\nchooses 1", 15),
                            ("code a\nholes 4\nvalues a 1", 15), ("code a\tb\n", 5), ("code a\r\n", 5),
                            ("code\ta\n", 0), ("code a\nholes 4\r\nchoose 1", 13)):
            self.assertEqual(fault(text), place, text)

    def test_names(self):
        for name in ("A", "a1", "aB", "a-", "\xe4", "1", "`", "{", "abcdefghijklm", "a" * 1000):
            self.assertEqual(fault("code %s\nholes 1\nchoose 1" % name), 5, name)
            self.assertEqual(fault("code a\nholes 1\nvalue %s 1" % name), 21, name)

    def test_holes(self):
        for holes in ("0", "9", "10", "04", "00", "+4", "-1", "4.", "four", "a", "/", ":", "1" * 900, "0" * 900,
                      "4" + "0" * 1900):
            self.assertEqual(fault("code a\nholes %s\nchoose 1" % holes), 13, holes)


class EmptyWords(unittest.TestCase):
    def test_as_the_document_tells(self):
        self.assertEqual(fault("code  a"), 5)

    def test_at_the_beginning_of_the_text(self):
        self.assertEqual(fault(" "), 0)
        self.assertEqual(fault(" " + FIRST), 0)
        self.assertEqual(fault("\n" + FIRST), 0)

    def test_at_the_end_of_the_text(self):
        for text in (FIRST, HEAD + "choose 2", HEAD + "value a 1", HEAD + "value a 1\nvalue b 2"):
            self.assertEqual(fault(text + " "), len(text) + 1)
            self.assertEqual(fault(text + "  "), len(text) + 1)
        self.assertEqual(fault("code "), 5)
        self.assertEqual(fault("code a\nholes 4\n "), 15)

    def test_at_the_beginning_of_a_line(self):
        self.assertEqual(fault("code a\n holes 4\nchoose 2"), 7)
        self.assertEqual(fault("code a\nholes 4\n choose 2"), 15)
        self.assertEqual(fault(HEAD + "value a 1\n value b 2"), 25)

    def test_at_the_end_of_a_line(self):
        self.assertEqual(fault("code a \nholes 4\nchoose 2"), 7)
        self.assertEqual(fault("code \nholes 4\nchoose 2"), 5)
        self.assertEqual(fault("code a\nholes 4 \nchoose 2"), 15)
        self.assertEqual(fault(HEAD + "value a 1 \nvalue b 2"), 25)

    def test_in_the_middle(self):
        self.assertEqual(fault("code a\nholes  4\nchoose 2"), 13)
        self.assertEqual(fault(HEAD + "weights 7  4 2 1 to 14"), 25)
        self.assertEqual(fault(HEAD + "weights 7 4 2 1  to 14"), 31)
        self.assertEqual(fault(HEAD + "weights 7 4 2 1 to  14"), 34)
        self.assertEqual(fault(HEAD + "choose  2"), 22)
        self.assertEqual(fault(HEAD + "value  a 1"), 21)
        self.assertEqual(fault(HEAD + "value a  1"), 23)
        self.assertEqual(fault(HEAD + "value a 1  2"), 25)

    def test_empty_lines(self):
        self.assertEqual(fault("code a\n\nholes 4\nchoose 2"), 7)
        self.assertEqual(fault(HEAD + "value a 1\n\nvalue b 2"), 25)


class Weights(unittest.TestCase):
    def place(self, tail):
        """Where the fault is behind `weights `."""
        return fault("code a\nholes 3\nweights " + tail) - 23

    def test_too_few_and_too_many(self):
        self.assertEqual(self.place("4 2 to 3"), 4)
        self.assertEqual(self.place("4 2 1 1 to 3"), 6)
        self.assertEqual(self.place("8 4 2 1 to 3"), 6)
        self.assertEqual(self.place("to 3"), 0)

    def test_bounds(self):
        for weight in ("0", "1001", "1000000", "02", "x", ":", "1:", "1/", "9" * 1000, "1" + "0" * 1900):
            self.assertEqual(self.place(weight + " 2 1 to 3"), 0)
        self.assertEqual(self.place("4 2 0 to 3"), 4)
        self.assertEqual(self.place("1000 1001 1 to 3"), 5)

    def test_each_is_less_than_the_one_before(self):
        self.assertEqual(self.place("4 4 1 to 3"), 2)
        self.assertEqual(self.place("4 5 1 to 3"), 2)
        self.assertEqual(self.place("4 2 2 to 3"), 4)

    def test_words_that_could_never_be_completed_stand(self):
        self.assertEqual(self.place("2 1 1 to 3"), 4)
        self.assertEqual(self.place("2 1"), 3)
        self.assertEqual(self.place("1"), 1)

    def test_to(self):
        self.assertEqual(self.place("4 2 1 for 3"), 6)
        self.assertEqual(self.place("4 2 1\n"), 5)
        for last in ("0", "8", "69", "70", "07", "00", "x", "-1", "7" * 1900):
            self.assertEqual(self.place("4 2 1 to " + last), 9, last)

    def test_69_is_the_most(self):
        self.assertEqual(fault("code a\nholes 8\nweights 128 64 32 16 8 4 2 1 to 70"), 47)
        self.assertIsNone(fault("code a\nholes 8\nweights 128 64 32 16 8 4 2 1 to 69"))

    def test_not_all_come_out(self):
        self.assertEqual(self.place("5 3 1 to 2"), 9)
        self.assertEqual(self.place("7 3 2 to 1"), 9)
        self.assertEqual(self.place("7 3 2 to 3"), 9)
        self.assertEqual(ask(code("code a\nholes 3\nweights 4 2 1 to 7"))[0], [0, 3, 8])
        self.assertEqual(ask(code("code a\nholes 3\nweights 5 2 1 to 3"))[0], [0, 3, 4])
        self.assertEqual(self.place("5 2 1 to 4"), 9)
        self.assertEqual(self.place("5 2 1 to 8"), 9)

    def test_nothing_stands_behind(self):
        self.assertEqual(self.place("4 2 1 to 7\n"), 10)
        self.assertEqual(self.place("4 2 1 to 7 8"), 11)
        self.assertEqual(self.place("4 2 1 to 7\nvalue a 1"), 10)


class Choose(unittest.TestCase):
    def test_bounds(self):
        for holes in range(1, 9):
            for size in ("0", str(holes + 1), "0%d" % holes, "x", "1" * 1900):
                self.assertEqual(fault("code a\nholes %d\nchoose %s" % (holes, size)), 22)

    def test_nothing_stands_behind(self):
        self.assertEqual(fault("code a\nholes 4\nchoose 2\n"), 23)
        self.assertEqual(fault("code a\nholes 4\nchoose 2 2"), 24)
        self.assertEqual(fault("code a\nholes 4\nchoose 2\nchoose 3"), 23)
        self.assertEqual(fault("code a\nholes 4\nchoose\n"), 21)


class Values(unittest.TestCase):
    def place(self, tail):
        """Where the fault is behind the first value's line-end, in a code of 4 holes."""
        start = HEAD + "value one 1 3\n"
        return fault(start + tail) - len(start)

    def test_marks(self):
        for mark in ("0", "5", "01", "x", "9" * 1900, "-1"):
            self.assertEqual(self.place("value two " + mark), 10)
        for mark in ("0", "1", "2", "5", "03", "x", "9" * 1900, "1" * 900):
            self.assertEqual(self.place("value two 2 " + mark), 12)
        self.assertEqual(self.place("value two 1 4 4"), 14)
        self.assertEqual(self.place("value two\n"), 9)
        self.assertEqual(self.place("value 2"), 6)

    def test_other_words(self):
        self.assertEqual(self.place("choose 2"), 0)
        self.assertEqual(self.place("weights 4 3 2 1 to 3"), 0)
        self.assertEqual(self.place(""), 0)
        self.assertEqual(self.place("value two 2 value"), 12)

    def test_the_same_name_twice(self):
        self.assertEqual(self.place("value one 2"), 6)
        self.assertEqual(self.place("value one"), 6)
        self.assertEqual(self.place("value two 2\nvalue six 3\nvalue two 4"), 30)
        self.assertEqual(self.place("value onee 2\nvalue on 3\nvalue on 4"), 30)

    def test_the_code_may_be_called_like_a_value(self):
        self.assertIsNone(fault("code a\nholes 1\nvalue a 1"))

    def test_the_same_marks_twice_at_the_end(self):
        self.assertEqual(self.place("value two 1 3"), 13)
        self.assertEqual(self.place("value two 2\nvalue six 2"), 23)

    def test_the_same_marks_twice_with_a_line_end_behind(self):
        self.assertEqual(self.place("value two 1 3\n"), 13)
        self.assertEqual(self.place("value two 1 3\nvalue six 4"), 13)
        self.assertEqual(self.place("value two 1 3 \nvalue six 4"), 14)

    def test_the_same_marks_with_one_more_are_others(self):
        self.assertIsNone(fault(HEAD + "value one 1 3\nvalue two 1 3 4\nvalue six 1"))
        self.assertEqual(self.place("value two 1 3 x"), 14)
        self.assertEqual(self.place("value two 1 3 3"), 14)

    def test_behind_the_70th(self):
        text = many_values(70)
        self.assertIsNone(fault(text))
        self.assertEqual(fault(text + "\n"), len(text))
        self.assertEqual(fault(text + "\nvalue zz 8"), len(text))
        self.assertEqual(fault(text + "\nvalue zz 1 2 3 4 5 6 7 8"), len(text))
        fewer = many_values(69)
        self.assertEqual(fault(fewer + "\n"), len(fewer) + 1)

    def test_the_70th_has_marks_that_were_there(self):
        text = many_values(69) + "\nvalue zz 1"
        self.assertEqual(fault(text), len(text))
        self.assertEqual(fault(text + "\n"), len(text))

    def test_one_value_alone(self):
        self.assertEqual(ask(code("code a\nholes 1\nvalue b 1"))[0], [0, 1, 1])
        self.assertEqual(fault("code a\nholes 1\nvalue b 1\n"), 25)
        self.assertEqual(fault("code a\nholes 1\nvalue b 1\nvalue c 1"), 34)


if __name__ == "__main__":
    unittest.main()
