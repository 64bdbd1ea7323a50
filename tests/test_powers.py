"""Point 6: fewsums.powers."""

from inspect import signature
from unittest import TestCase

from fewsums.chains import doubling
from fewsums.errors import NoChain, NoModulus
from fewsums.powers import powers
from tests.samples import (
    CHAINS, FORTY_NINES, NO_CHAINS, all_short_chains, assert_refused, assert_whole_numbers, doubles, slow_links,
)

BASES = (
    0, 1, -1, 2, -2, 3, -7, 10, 10 ** 30, -10 ** 30, 10 ** 39, -10 ** 39, FORTY_NINES, -FORTY_NINES,
    int("1234567890" * 4), -int("9876543210" * 4),
)

MODULI = (1, 2, 3, 4, 10, 97, 10 ** 9 + 7, 2 ** 64, 10 ** 30 - 1, 10 ** 30)

NO_MODULI = (0, -1, -2, -10 ** 30, -FORTY_NINES, 10 ** 30 + 1, 10 ** 30 + 2, 10 ** 31, FORTY_NINES)


class TestPowers(TestCase):
    def test_arguments_as_they_stand(self):
        self.assertEqual(list(signature(powers).parameters), ["chain", "base", "modulus"])

    def test_ordinary(self):
        self.assertEqual(powers([1, 2, 3, 5, 10], 2, 1000), [2, 4, 8, 32, 24])
        self.assertEqual(powers([1, 2, 4, 5, 8], 3, 10), [3, 9, 1, 3, 1])

    def test_one_number(self):
        self.assertEqual(powers([1], 7, 5), [2])
        self.assertEqual(powers([1], 7, 10 ** 30), [7])
        self.assertEqual(powers([1], 7, 7), [0])
        self.assertEqual(powers([1], -7, 5), [3])

    def test_a_base_below_nought(self):
        self.assertEqual(powers([1, 2, 3, 6], -2, 10), [8, 4, 2, 4])
        self.assertEqual(powers([1, 2, 3], -1, 10 ** 30), [10 ** 30 - 1, 1, 10 ** 30 - 1])
        self.assertEqual(powers([1, 2, 3], -10, 10), [0, 0, 0])

    def test_the_base_nought(self):
        self.assertEqual(powers([1, 2, 3], 0, 10), [0, 0, 0])

    def test_the_modulus_1_leaves_nought(self):
        for base in BASES:
            with self.subTest(base=base):
                self.assertEqual(powers([1, 2, 3, 5], base, 1), [0, 0, 0, 0])

    def test_the_greatest_modulus(self):
        self.assertEqual(powers([1, 2, 3, 4], 10 ** 10, 10 ** 30), [10 ** 10, 10 ** 20, 0, 0])
        self.assertEqual(powers([1, 2], 10 ** 15 - 1, 10 ** 30), [10 ** 15 - 1, 10 ** 30 - 2 * 10 ** 15 + 1])

    def test_bases_of_forty_figures(self):
        self.assertEqual(powers([1, 2], FORTY_NINES, 10 ** 30), [10 ** 30 - 1, 1])
        self.assertEqual(powers([1, 2], -FORTY_NINES, 10 ** 30), [1, 1])

    def test_against_another_reckoning(self):
        for chain in CHAINS + [doubling(10 ** 30), doubles(250)]:
            for base in BASES:
                for modulus in MODULI:
                    told = powers(chain, base, modulus)
                    if told != [pow(base, number, modulus) for number in chain]:
                        self.fail((chain, base, modulus))

    def test_short_chains_against_another_reckoning(self):
        for chain in all_short_chains():
            for base in (2, -3, 11):
                self.assertEqual(powers(chain, base, 10 ** 30), [base ** number % 10 ** 30 for number in chain])

    def test_each_is_left_of_the_product_at_its_link(self):
        for chain in CHAINS:
            told = powers(chain, -12345, 10 ** 20 + 39)
            for place, (first, second) in enumerate(slow_links(chain), start=1):
                self.assertEqual(told[place], told[first] * told[second] % (10 ** 20 + 39))

    def test_kinds_and_bounds(self):
        for chain in CHAINS:
            for modulus in MODULI:
                told = powers(chain, -FORTY_NINES, modulus)
                assert_whole_numbers(self, told)
                self.assertEqual(len(told), len(chain))
                self.assertTrue(all(0 <= number < modulus for number in told))

    def test_no_modulus(self):
        for modulus in NO_MODULI:
            for chain in ([1], [1, 2, 3], list(range(1, 251))):
                for base in (0, 2, -FORTY_NINES):
                    with self.subTest(modulus=modulus):
                        assert_refused(self, NoModulus, powers, chain, base, modulus)

    def test_no_chain(self):
        for numbers in NO_CHAINS:
            for modulus in MODULI:
                with self.subTest(numbers=numbers):
                    assert_refused(self, NoChain, powers, numbers, 2, modulus)

    def test_no_chain_ahead_of_no_modulus(self):
        for numbers in NO_CHAINS:
            for modulus in NO_MODULI:
                with self.subTest(numbers=numbers, modulus=modulus):
                    assert_refused(self, NoChain, powers, numbers, 2, modulus)
