"""Points 8, 9 and 10: fewsums.shortest."""

from inspect import signature
from time import process_time
from unittest import TestCase

from fewsums.errors import NoNumber
from fewsums.shortest import least, shortest, shortest_many
from tests.samples import FORTY_NINES, assert_refused, assert_whole_numbers, slow_is_chain

# Far above what one answer takes, and far below what a search without any bound would.
SHORT_TIME = 1

NEVER = (0, -1, -2, -40, -60, -10 ** 30, -FORTY_NINES, 61, 62, 64, 100, 128, 10 ** 30, FORTY_NINES)

LEASTS = [
    0, 1, 2, 2, 3, 3, 4, 3, 4, 4, 5, 4, 5, 5, 5, 4, 5, 5, 6, 5, 6, 6, 6, 5, 6, 6, 6, 6, 7, 6,
    7, 5, 6, 6, 7, 6, 7, 7, 7, 6, 7, 7, 7, 7, 7, 7, 8, 6, 7, 7, 7, 7, 8, 7, 8, 7, 8, 8, 8, 7,
]


def all_chains_by_steps(most):
    """For each number of steps every chain there is, whatever its end."""
    layer = {(1,)}
    layers = [layer]
    for _ in range(most):
        layer = {
            chain + (one + other,)
            for chain in layer
            for one in chain
            for other in chain
            if one + other > chain[-1]
        }
        layers.append(layer)
    return layers


def searched():
    """Of each number up to 60 its least and how many chains of so many steps end with it."""
    leasts = {}
    counts = {}
    for steps, layer in enumerate(all_chains_by_steps(8)):
        ends = [chain[-1] for chain in layer]
        for number in range(1, 61):
            if number not in leasts and number in ends:
                leasts[number] = steps
                counts[number] = ends.count(number)
    return leasts, counts


class TestShortest(TestCase):
    @classmethod
    def setUpClass(cls):
        cls.leasts, cls.counts = searched()

    def assert_short_time(self, function, number):
        begun = process_time()
        told = function(number)
        self.assertLess(process_time() - begun, SHORT_TIME, (function, number))
        return told

    def test_arguments_as_they_stand(self):
        for function in (shortest, least, shortest_many):
            with self.subTest(function=function):
                self.assertEqual(list(signature(function).parameters), ["number"])

    def test_the_search_of_the_test_came_to_every_number(self):
        self.assertEqual([self.leasts[number] for number in range(1, 61)], LEASTS)

    def test_one(self):
        self.assertEqual(shortest(1), [1])
        self.assertEqual(least(1), 0)
        self.assertEqual(shortest_many(1), 1)

    def test_numbers_with_one_shortest_chain(self):
        self.assertEqual(shortest(2), [1, 2])
        self.assertEqual(shortest(3), [1, 2, 3])
        self.assertEqual(shortest(4), [1, 2, 4])
        self.assertEqual(shortest(32), [1, 2, 4, 8, 16, 32])

    def test_fewer_steps_than_by_doubling(self):
        self.assertEqual(least(15), 5)
        self.assertEqual(least(23), 6)
        self.assertEqual(least(60), 7)

    def test_counts(self):
        for number, many in ((4, 1), (5, 2), (6, 2), (7, 5), (8, 1), (9, 3), (11, 15), (13, 10), (40, 8)):
            with self.subTest(number=number):
                self.assertEqual(shortest_many(number), many)

    def test_a_chain_that_needs_a_step_without_the_number_ahead_is_counted(self):
        # 1 2 4 5 8 13: 8 is 4 and 4, not 5 and another one.
        self.assertIn((1, 2, 4, 5, 8, 13), all_chains_by_steps(5)[5])
        self.assertEqual(shortest_many(13), self.counts[13])

    def test_shortest_of_every_number(self):
        for number in range(1, 61):
            with self.subTest(number=number):
                told = self.assert_short_time(shortest, number)
                assert_whole_numbers(self, told)
                self.assertIs(slow_is_chain(told), True)
                self.assertEqual(told[-1], number)
                self.assertEqual(len(told) - 1, self.leasts[number])

    def test_least_of_every_number(self):
        for number in range(1, 61):
            with self.subTest(number=number):
                told = self.assert_short_time(least, number)
                self.assertIs(type(told), int)
                self.assertEqual(told, self.leasts[number])

    def test_shortest_many_of_every_number(self):
        for number in range(1, 41):
            with self.subTest(number=number):
                told = self.assert_short_time(shortest_many, number)
                self.assertIs(type(told), int)
                self.assertEqual(told, self.counts[number])

    def test_the_least_of_a_product(self):
        for one in range(1, 61):
            for other in range(1, 60 // one + 1):
                self.assertLessEqual(least(one * other), least(one) + least(other), (one, other))

    def test_the_least_of_a_number_and_one(self):
        for number in range(1, 60):
            self.assertLessEqual(least(number + 1), least(number) + 1, number)

    def test_the_least_and_the_doublings_of_1(self):
        for number in range(1, 61):
            doubled = 1
            times = 0
            while doubled < number:
                doubled = doubled * 2
                times = times + 1
            self.assertGreaterEqual(least(number), times, number)

    def test_the_greatest_numbers(self):
        self.assertEqual(shortest(60)[-1], 60)
        self.assertEqual(least(60), 7)
        self.assertEqual(shortest_many(40), 8)

    def test_other_numbers(self):
        for number in NEVER:
            for function in (shortest, least, shortest_many):
                with self.subTest(number=number, function=function):
                    assert_refused(self, NoNumber, function, number)

    def test_many_ends_at_40(self):
        for number in range(41, 61):
            with self.subTest(number=number):
                assert_refused(self, NoNumber, shortest_many, number)
