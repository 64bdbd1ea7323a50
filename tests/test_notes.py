"""Point 11: fewsums.notes."""

import re
from inspect import signature
from itertools import product
from time import process_time
from unittest import TestCase

from fewsums.chains import joined
from fewsums.errors import NoChain, NoNote
from fewsums.notes import read, shown
from tests.samples import (
    CHAINS, FORTY_NINES, NO_CHAINS, all_short_chains, assert_refused, assert_whole_numbers, by_text, doubles,
    slow_is_chain,
)

SHORT_TIME = 1

LONG_CHAINS = [doubles(250), joined(doubles(125), list(range(1, 127))), joined(by_text(FORTY_NINES), [1, 2, 3])]

SIGNS = [chr(code) for code in range(32, 127) if chr(code) != "%"] + ["\t", "\n"]

NO_NOTES = [
    "",
    " ", "  ", "\t", "\n", " \n",
    " 1", "1 ", "  1", "1  ", " 1 2", "1 2 ", "1  2", "1 2  3", "1   2", "1 2 3 ", " 1 2 3",
    "+1", "-1", "+1 2", "1 +2", "1 -2", "1+", "1 2+", "1 + 2", "- 1",
    "1_0", "1 2 4 8 1_6", "1 2_", "_1", "_",
    "1.", "1.0", "1 2.0", ".1", "1 2.", ".",
    "\t1", "1\t", "1\t2", "1 \t2", "1\t 2", "1 2\t",
    "\n1", "1\n", "1\n2", "1 \n2", "1\n 2", "1 2\n", "1 2 3\n",
    "a", "1 a", "a 1", "1 2a", "1a 2", "1 2 l", "I", "1 two", "1e0", "1 2 4 8 0x10", "1 0b10", "1 2L", "1 2j",
    "01", "1 02", "01 2", "1 2 03", "001", "1 2 4 08", "1 00", "00",
    "1,2", "1, 2", "[1, 2]", "[1]", "(1)", "1;2", "1 2;", "1/1", "1=1", "1 '2'", "\"1\"", "1~", "~", "1 2 !", "1\\n2",
    "0", "2", "10", "12", "1 0", "1 1", "0 1", "1 3", "2 4", "1 2 2", "1 2 1", "1 2 5", "1 2 4 3", "1 2 4 7",
    "1 2 3 34", "1 2 4 8 11", "1 " + "9" * 40, "1 2 " + "9" * 76, "9" * 75, "9" * 76,
]


def slow_read(text):
    """The chain that the text writes, or None."""
    if re.fullmatch(r"[1-9][0-9]*( [1-9][0-9]*)*", text) is None:
        return None
    numbers = [int(figures) for figures in re.findall("[0-9]+", text)]
    return numbers if slow_is_chain(numbers) else None


class TestShown(TestCase):
    def test_arguments_as_they_stand(self):
        self.assertEqual(list(signature(shown).parameters), ["chain"])

    def test_ordinary(self):
        self.assertEqual(shown([1]), "1")
        self.assertEqual(shown([1, 2]), "1 2")
        self.assertEqual(shown([1, 2, 3, 5, 10, 20]), "1 2 3 5 10 20")

    def test_forty_figures_and_more(self):
        for chain in CHAINS + LONG_CHAINS:
            told = shown(chain)
            self.assertIs(type(told), str)
            self.assertEqual(told, str(chain).replace(",", "").strip("[]"))

    def test_250_numbers(self):
        told = shown(list(range(1, 251)))
        self.assertEqual(told.count(" "), 249)
        self.assertEqual(told[:12], "1 2 3 4 5 6 ")
        self.assertEqual(told[-8:], " 249 250")

    def test_no_chain(self):
        for numbers in NO_CHAINS:
            with self.subTest(numbers=numbers):
                assert_refused(self, NoChain, shown, numbers)


class TestRead(TestCase):
    def test_arguments_as_they_stand(self):
        self.assertEqual(list(signature(read).parameters), ["text"])

    def test_ordinary(self):
        self.assertEqual(read("1"), [1])
        self.assertEqual(read("1 2"), [1, 2])
        self.assertEqual(read("1 2 3 5 10 20"), [1, 2, 3, 5, 10, 20])

    def test_noughts_that_are_not_first(self):
        self.assertEqual(read("1 2 4 5 10 20 40 50 100"), [1, 2, 4, 5, 10, 20, 40, 50, 100])

    def test_what_is_written_is_read_to_the_same_chain(self):
        for chain in CHAINS + LONG_CHAINS + all_short_chains():
            told = read(shown(chain))
            assert_whole_numbers(self, told)
            self.assertEqual(told, chain)

    def test_75_figures_are_read(self):
        self.assertEqual(read(" ".join(str(number) for number in doubles(250)))[-1], 2 ** 249)
        self.assertEqual(len(str(2 ** 249)), 75)

    def test_250_numbers_and_no_more(self):
        text = " ".join(str(number) for number in range(1, 251))
        self.assertEqual(read(text), list(range(1, 251)))
        assert_refused(self, NoNote, read, text + " 251")

    def test_no_notes(self):
        for text in NO_NOTES:
            with self.subTest(text=text):
                assert_refused(self, NoNote, read, text)

    def test_numbers_that_are_no_chain(self):
        for numbers in NO_CHAINS:
            with self.subTest(numbers=numbers):
                assert_refused(self, NoNote, read, " ".join(str(number) for number in numbers))

    def test_one_sign_too_many_in_a_note(self):
        for note in ("1", "1 2", "1 2 3 6"):
            for place in range(len(note) + 1):
                for sign in SIGNS:
                    self.assert_read_rightly(note[:place] + sign + note[place:])

    def test_every_short_text(self):
        for many in range(6):
            for signs in product("0123 +\t", repeat=many):
                self.assert_read_rightly("".join(signs))

    def assert_read_rightly(self, text):
        chain = slow_read(text)
        if chain is None:
            assert_refused(self, NoNote, read, text)
        else:
            self.assertEqual(read(text), chain)

    def test_texts_of_12000_signs(self):
        counted = " ".join(str(number) for number in range(1, 3000))[:12000]
        for text in (
            "1" * 12000, "9" * 4300, "9" * 4301, "9" * 12000, "0" * 12000, " " * 12000, "1 " * 6000, "1 " * 5999 + "1",
            "1 2 " + "3" * 11996, "1" + "0" * 11999, "\n" * 12000, "\t" * 12000, "1 2 3" + " " * 11995,
            "1 2 3" + "\n" * 11995, "a" * 12000, "-" + "1" * 11999, counted, "1 " + "0" * 11997 + "2",
            shown(doubles(250)) + " " + "7" * 1000,
        ):
            with self.subTest(text=text[:20]):
                self.assertLessEqual(len(text), 12000)
                begun = process_time()
                assert_refused(self, NoNote, read, text)
                self.assertLess(process_time() - begun, SHORT_TIME)
