"""Point 1: what is handed in stays as it was, and what is told is the asker's own."""

from unittest import TestCase

from fewsums.chains import doubling, is_chain, joined, links, thinned
from fewsums.errors import SumError
from tests.samples import CHAINS, NO_CHAINS, doubles


def answer(function, handed):
    """What is told, or None when it is refused."""
    try:
        return function(*handed)
    except SumError:
        return None


def questions():
    """Each function with what is handed in, lists of its own each time."""
    for numbers in CHAINS + NO_CHAINS:
        for function in (is_chain, links, thinned):
            yield function, [list(numbers)]
        for other in ([1], [1, 2, 3], [1, 3], list(range(1, 251))):
            yield joined, [list(numbers), list(other)]
            yield joined, [list(other), list(numbers)]


def told_lists():
    """Each function that tells a list, with something that it takes."""
    for chain in CHAINS:
        yield links, [list(chain)]
        yield thinned, [list(chain)]
        yield joined, [list(chain), [1]]
        yield joined, [[1], list(chain)]
    yield joined, [[1, 2, 3], [1, 2, 4]]
    for number in (1, 2, 23, 10 ** 30):
        yield doubling, [number]


class TestOwn(TestCase):
    def test_what_is_handed_in_stays(self):
        for function, handed in questions():
            kept = [list(numbers) for numbers in handed]
            answer(function, handed)
            self.assertEqual(handed, kept)

    def test_what_is_told_is_no_list_that_was_handed_in(self):
        for function, handed in told_lists():
            told = function(*handed)
            for given in handed:
                self.assertIsNot(told, given)

    def test_the_same_list_handed_in_twice(self):
        chain = [1, 2, 3]
        self.assertEqual(joined(chain, chain), [1, 2, 3, 6, 9])
        self.assertEqual(chain, [1, 2, 3])

    def test_a_change_of_what_was_handed_in_changes_nothing_told(self):
        for function, handed in told_lists():
            told = function(*handed)
            kept = list(told)
            for given in handed:
                if isinstance(given, list):
                    given.reverse()
                    given.append(7)
            self.assertEqual(told, kept)

    def test_a_change_of_what_was_told_changes_no_later_answer(self):
        for function, handed in told_lists():
            told = function(*handed)
            kept = list(told)
            told.clear()
            told.append(7)
            again = function(*handed)
            self.assertIsNot(again, told)
            self.assertEqual(again, kept)

    def test_a_list_is_looked_at_anew_each_time(self):
        chain = doubles(5)
        self.assertEqual(links(chain)[-1], (3, 3))
        self.assertEqual(thinned(chain), doubles(5))
        chain[4] = 9
        self.assertEqual(links(chain)[-1], (0, 3))
        self.assertEqual(joined(chain, [1, 2]), [1, 2, 4, 8, 9, 18])
        chain[4] = 11
        self.assertIs(is_chain(chain), False)
        self.assertIsNone(answer(links, [chain]))
        self.assertIsNone(answer(thinned, [chain]))
