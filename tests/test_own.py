"""Point 1: what is handed in stays as it was, and what is told is the asker's own."""

from copy import deepcopy
from unittest import TestCase

from fewsums.chains import doubling, is_chain, joined, links, thinned
from fewsums.errors import SumError
from fewsums.notes import read, shown
from fewsums.powers import powers
from fewsums.shortest import least, shortest, shortest_many
from tests.samples import CHAINS, NO_CHAINS, doubles


def answer(function, handed):
    """What is told, or None when it is refused."""
    try:
        return function(*handed)
    except SumError:
        return None


def questions():
    """Each function with what is handed in, lists of its own each time."""
    for numbers in CHAINS + NO_CHAINS:
        for function in (is_chain, links, thinned, shown):
            yield function, [list(numbers)]
        for modulus in (0, 1, 1000, 10 ** 30, 10 ** 30 + 1):
            yield powers, [list(numbers), -7, modulus]
        for other in ([1], [1, 2, 3], [1, 3], list(range(1, 251))):
            yield joined, [list(numbers), list(other)]
            yield joined, [list(other), list(numbers)]


def told_lists():
    """Each function that tells a list, with something that it takes."""
    for chain in CHAINS:
        yield links, [list(chain)]
        yield thinned, [list(chain)]
        yield joined, [list(chain), [1]]
        yield joined, [[1], list(chain)]
        yield powers, [list(chain), 7, 10 ** 30]
        yield powers, [list(chain), 7, 1]
        yield read, [shown(chain)]
    yield joined, [[1, 2, 3], [1, 2, 4]]
    for number in (1, 2, 23, 10 ** 30):
        yield doubling, [number]
    for number in range(1, 61):
        yield shortest, [number]


class TestOwn(TestCase):
    def test_what_is_handed_in_stays(self):
        for function, handed in questions():
            kept = deepcopy(handed)
            answer(function, handed)
            self.assertEqual(handed, kept)

    def test_what_is_told_is_no_list_that_was_handed_in(self):
        for function, handed in told_lists():
            told = function(*handed)
            for given in handed:
                self.assertIsNot(told, given)

    def test_the_same_list_handed_in_twice(self):
        chain = [1, 2, 3]
        self.assertEqual(joined(chain, chain), [1, 2, 3, 6, 9])
        self.assertEqual(chain, [1, 2, 3])

    def test_a_change_of_what_was_handed_in_changes_nothing_told(self):
        for function, handed in told_lists():
            told = function(*handed)
            kept = list(told)
            for given in handed:
                if isinstance(given, list):
                    given.reverse()
                    given.append(7)
            self.assertEqual(told, kept)

    def test_a_change_of_what_was_told_changes_no_later_answer(self):
        for function, handed in told_lists():
            told = function(*handed)
            kept = list(told)
            told.clear()
            told.append(7)
            again = function(*handed)
            self.assertIsNot(again, told)
            self.assertEqual(again, kept)

    def test_a_change_of_a_told_shortest_chain_changes_no_least_and_no_count(self):
        for number in range(1, 41):
            kept = (least(number), shortest_many(number))
            told = shortest(number)
            told.append(7)
            self.assertEqual((least(number), shortest_many(number)), kept)

    def test_a_list_is_looked_at_anew_each_time(self):
        chain = doubles(5)
        self.assertEqual(links(chain)[-1], (3, 3))
        self.assertEqual(thinned(chain), doubles(5))
        self.assertEqual(powers(chain, 2, 10 ** 6), [2, 4, 16, 256, 65536])
        self.assertEqual(shown(chain), "1 2 4 8 16")
        chain[4] = 9
        self.assertEqual(links(chain)[-1], (0, 3))
        self.assertEqual(joined(chain, [1, 2]), [1, 2, 4, 8, 9, 18])
        self.assertEqual(powers(chain, 2, 10 ** 6), [2, 4, 16, 256, 512])
        self.assertEqual(shown(chain), "1 2 4 8 9")
        chain[4] = 11
        self.assertIs(is_chain(chain), False)
        self.assertIsNone(answer(links, [chain]))
        self.assertIsNone(answer(thinned, [chain]))
        self.assertIsNone(answer(powers, [chain, 2, 10]))
        self.assertIsNone(answer(shown, [chain]))
