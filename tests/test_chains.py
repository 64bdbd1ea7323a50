"""Points 2, 3, 4, 5 and 7: fewsums.chains."""

from inspect import signature
from unittest import TestCase

from fewsums.chains import doubling, is_chain, joined, links, thinned
from fewsums.errors import NoChain, NoNumber, TooLong
from tests.samples import (
    CHAINS, FORTY_NINES, NO_CHAINS, all_short_chains, all_short_lists, assert_refused, assert_whole_numbers,
    by_text, doubles, slow_is_chain, slow_links, slow_thinned,
)


class TestInterface(TestCase):
    def test_arguments_as_they_stand(self):
        for function, names in (
            (is_chain, ["chain"]), (links, ["chain"]), (thinned, ["chain"]),
            (joined, ["one", "other"]), (doubling, ["number"]),
        ):
            with self.subTest(function=function):
                self.assertEqual(list(signature(function).parameters), names)


class TestIsChain(TestCase):
    def test_chains(self):
        for chain in CHAINS:
            with self.subTest(chain=chain):
                self.assertIs(is_chain(chain), True)

    def test_other_lists_are_not_refused(self):
        for numbers in NO_CHAINS:
            with self.subTest(numbers=numbers):
                self.assertIs(is_chain(numbers), False)

    def test_250_numbers_and_no_more(self):
        self.assertIs(is_chain(list(range(1, 251))), True)
        self.assertIs(is_chain(list(range(1, 252))), False)

    def test_every_short_list(self):
        for numbers in all_short_lists():
            if is_chain(numbers) is not slow_is_chain(numbers):
                self.fail(numbers)


class TestLinks(TestCase):
    def test_one_number_has_none(self):
        self.assertEqual(links([1]), [])

    def test_ordinary(self):
        self.assertEqual(links([1, 2]), [(0, 0)])
        self.assertEqual(links([1, 2, 3, 5, 10]), [(0, 0), (0, 1), (1, 2), (3, 3)])

    def test_the_greatest_second_place_of_several(self):
        self.assertEqual(links([1, 2, 3, 4]), [(0, 0), (0, 1), (0, 2)])
        self.assertEqual(links([1, 2, 3, 4, 5, 6]), [(0, 0), (0, 1), (0, 2), (0, 3), (0, 4)])

    def test_a_second_place_further_ahead(self):
        self.assertEqual(links([1, 2, 4, 5, 8]), [(0, 0), (1, 1), (0, 2), (2, 2)])
        self.assertEqual(links([1, 2, 4, 5, 6, 9]), [(0, 0), (1, 1), (0, 2), (0, 3), (2, 3)])

    def test_250_numbers(self):
        self.assertEqual(links(list(range(1, 251))), [(0, place - 1) for place in range(1, 250)])

    def test_forty_figures(self):
        self.assertEqual(links(doubles(132) + [2 ** 131 + 1])[-2:], [(130, 130), (0, 131)])

    def test_against_every_pair(self):
        for chain in CHAINS + all_short_chains():
            if links(chain) != slow_links(chain):
                self.fail(chain)

    def test_kinds(self):
        for chain in CHAINS:
            told = links(chain)
            self.assertIs(type(told), list)
            for link in told:
                self.assertIs(type(link), tuple)
                assert_whole_numbers(self, list(link))

    def test_no_chain(self):
        for numbers in NO_CHAINS:
            with self.subTest(numbers=numbers):
                assert_refused(self, NoChain, links, numbers)


class TestThinned(TestCase):
    def test_nothing_to_drop(self):
        for chain in ([1], [1, 2], [1, 2, 3, 5, 10], doubles(133), list(range(1, 251))):
            with self.subTest(chain=chain):
                self.assertEqual(thinned(chain), chain)

    def test_the_link_settles_what_is_needed(self):
        self.assertEqual(thinned([1, 2, 3, 4, 8]), [1, 2, 3, 4, 8])

    def test_dropped(self):
        self.assertEqual(thinned([1, 2, 4, 5, 8]), [1, 2, 4, 8])
        self.assertEqual(thinned([1, 2, 3, 6, 7, 12]), [1, 2, 3, 6, 12])
        self.assertEqual(thinned([1, 2, 3, 6, 7, 12, 13, 24]), [1, 2, 3, 6, 12, 24])

    def test_what_only_a_dropped_number_needs_is_dropped(self):
        self.assertEqual(thinned([1, 2, 4, 5, 8, 13, 16]), [1, 2, 4, 8, 16])

    def test_forty_figures(self):
        chain = doubles(132) + [2 ** 131 + 1, 2 ** 132]
        self.assertEqual(thinned(chain), doubles(133))

    def test_against_every_need(self):
        for chain in all_short_chains():
            if thinned(chain) != slow_thinned(chain):
                self.fail(chain)

    def test_a_chain_with_the_same_end_that_stays(self):
        for chain in CHAINS + all_short_chains():
            told = thinned(chain)
            assert_whole_numbers(self, told)
            self.assertIs(slow_is_chain(told), True)
            self.assertEqual(told[-1], chain[-1])
            self.assertEqual(thinned(told), told)

    def test_no_chain(self):
        for numbers in NO_CHAINS:
            with self.subTest(numbers=numbers):
                assert_refused(self, NoChain, thinned, numbers)


class TestJoined(TestCase):
    def test_ordinary(self):
        self.assertEqual(joined([1, 2, 3], [1, 2]), [1, 2, 3, 6])
        self.assertEqual(joined([1, 2], [1, 2, 3]), [1, 2, 4, 6])
        self.assertEqual(joined([1, 2, 3, 5], [1, 2, 4, 5]), [1, 2, 3, 5, 10, 20, 25])

    def test_one_number(self):
        self.assertEqual(joined([1], [1]), [1])
        for chain in CHAINS:
            with self.subTest(chain=chain):
                self.assertEqual(joined([1], chain), chain)
                self.assertEqual(joined(chain, [1]), chain)

    def test_nothing_is_thinned(self):
        self.assertEqual(joined([1, 2, 4, 5, 8], [1, 2, 3, 4]), [1, 2, 4, 5, 8, 16, 24, 32])

    def test_ends_and_steps(self):
        chains = [chain for chain in CHAINS if len(chain) < 20]
        for one in chains + [doubles(133)]:
            for other in chains:
                told = joined(one, other)
                assert_whole_numbers(self, told)
                self.assertIs(slow_is_chain(told), True)
                self.assertEqual(told[-1], one[-1] * other[-1])
                self.assertEqual(len(told) - 1, len(one) - 1 + len(other) - 1)

    def test_a_product_of_more_than_forty_figures(self):
        self.assertEqual(joined(doubles(125), doubles(126)), doubles(250))
        chain = by_text(FORTY_NINES)
        self.assertEqual(joined(chain, [1, 2, 3]), chain + [FORTY_NINES * 2, FORTY_NINES * 3])

    def test_250_numbers(self):
        for many, more in ((125, 126), (126, 125), (249, 2), (2, 249), (250, 1), (1, 250)):
            with self.subTest(many=many):
                one = list(range(1, many + 1))
                other = list(range(1, more + 1))
                told = joined(one, other)
                self.assertEqual(told, one + [number * many for number in range(2, more + 1)])
                self.assertEqual(len(told), 250)

    def test_251_numbers_are_too_long(self):
        for many, more in ((126, 126), (125, 127), (250, 2), (2, 250), (249, 3), (250, 250)):
            with self.subTest(many=many):
                assert_refused(self, TooLong, joined, list(range(1, many + 1)), list(range(1, more + 1)))

    def test_no_chain(self):
        for numbers in NO_CHAINS:
            for chain in ([1], [1, 2, 3], list(range(1, 251))):
                with self.subTest(numbers=numbers):
                    assert_refused(self, NoChain, joined, numbers, chain)
                    assert_refused(self, NoChain, joined, chain, numbers)
            assert_refused(self, NoChain, joined, numbers, numbers)

    def test_no_chain_ahead_of_too_long(self):
        broken = list(range(1, 250)) + [499]
        assert_refused(self, NoChain, joined, broken, list(range(1, 251)))
        assert_refused(self, NoChain, joined, list(range(1, 251)), broken)
        assert_refused(self, NoChain, joined, list(range(1, 252)), list(range(1, 252)))


class TestDoubling(TestCase):
    def test_one(self):
        self.assertEqual(doubling(1), [1])

    def test_ordinary(self):
        self.assertEqual(doubling(2), [1, 2])
        self.assertEqual(doubling(3), [1, 2, 3])
        self.assertEqual(doubling(4), [1, 2, 4])
        self.assertEqual(doubling(6), [1, 2, 3, 6])
        self.assertEqual(doubling(23), [1, 2, 4, 5, 10, 11, 22, 23])
        self.assertEqual(doubling(100), [1, 2, 3, 6, 12, 24, 25, 50, 100])

    def test_noughts_and_ones_alone(self):
        self.assertEqual(doubling(2 ** 99), doubles(100))
        self.assertEqual(len(doubling(2 ** 99 - 1)), 197)

    def test_the_greatest_number(self):
        self.assertEqual(doubling(10 ** 30), by_text(10 ** 30))
        self.assertEqual(doubling(10 ** 30 - 1), by_text(10 ** 30 - 1))

    def test_end_and_steps(self):
        for number in list(range(1, 1025)) + [3 ** 62, 2 ** 99 - 1, 2 ** 99, 2 ** 99 + 1, 10 ** 30 - 1, 10 ** 30]:
            told = doubling(number)
            figures = bin(number)[2:]
            assert_whole_numbers(self, told)
            self.assertEqual(told, by_text(number))
            self.assertIs(slow_is_chain(told), True)
            self.assertEqual(told[-1], number)
            self.assertEqual(len(told) - 1, len(figures) - 1 + figures.count("1") - 1)

    def test_other_numbers(self):
        for number in (0, -1, -2, -10 ** 30, -FORTY_NINES, 10 ** 30 + 1, 2 ** 100, FORTY_NINES):
            with self.subTest(number=number):
                assert_refused(self, NoNumber, doubling, number)
