"""Points 1, 4 and 5: payable amounts, payments and how many there are."""

import math
import unittest

from linkpay.errors import NoAmount, NoOpened, TooMany
from linkpay.pay import payable, payment, ways
from linkpay.rows import gap
from tests.support import (MOST_LINKS, all_rows, answered_soon, assert_refused, choices_by_amount, counts_by_amount,
                           opened_between, sizes_of)

ASKED = (payable, payment, ways)


class Payments(unittest.TestCase):
    def assert_pays(self, told, sizes, amount):
        self.assertIs(type(told), list)
        self.assertEqual(told, sorted(set(told)))
        self.assertTrue(all(0 <= number < len(sizes) for number in told), told)
        self.assertEqual(sum(sizes[number] for number in told), amount)

    def assert_unpayable(self, links, opened, amount):
        self.assertIs(payable(links, opened, amount), False)
        self.assertIsNone(payment(links, opened, amount))
        self.assertEqual(ways(links, opened, amount), 0)

    def assert_paid(self, links, opened, amount, sizes, count):
        self.assertIs(payable(links, opened, amount), True)
        self.assert_pays(payment(links, opened, amount), sizes, amount)
        self.assertEqual(ways(links, opened, amount), count)

    def test_pieces_are_numbered_from_the_left_from_nought(self):
        told = [payment(7, [2], amount) for amount in range(8)]
        self.assertEqual(told, [[], [1], [0], [0, 1], [2], [1, 2], [0, 2], [0, 1, 2]])
        self.assertEqual([ways(7, [2], amount) for amount in range(8)], [1] * 8)

    def test_every_amount_of_every_small_row(self):
        for links, opened in all_rows(9, 8):
            sizes = sizes_of(links, opened)
            choices = choices_by_amount(sizes)
            for amount in range(links + 1):
                with self.subTest(links=links, opened=opened, amount=amount):
                    if amount in choices:
                        self.assertIn(payment(links, opened, amount), choices[amount])
                        self.assert_paid(links, opened, amount, sizes, len(choices[amount]))
                    else:
                        self.assert_unpayable(links, opened, amount)

    def test_every_amount_of_longer_rows_with_two_opened(self):
        for links, opened in [(23, [3, 10]), (24, [3, 10]), (30, [0, 29]), (30, [9, 20])]:
            sizes = sizes_of(links, opened)
            choices = choices_by_amount(sizes)
            for amount in range(links + 1):
                if amount in choices:
                    self.assert_paid(links, opened, amount, sizes, len(choices[amount]))
                else:
                    self.assert_unpayable(links, opened, amount)

    def test_amounts_that_are_not_payable(self):
        for links, opened, amount in [(2, [], 1), (5, [0], 2), (5, [0], 3), (7, [3], 2), (9, [4], 3),
                                      (MOST_LINKS, [], 1), (MOST_LINKS, [], MOST_LINKS - 1), (MOST_LINKS, [0], 2)]:
            with self.subTest(links=links, opened=opened, amount=amount):
                self.assert_unpayable(links, opened, amount)

    def test_nought_and_all_links(self):
        for links, opened in [(1, []), (1, [0]), (7, [2]), (8, list(range(8))), (MOST_LINKS, []),
                              (MOST_LINKS, [0, 5, 10 ** 20, MOST_LINKS - 1])]:
            with self.subTest(links=links, opened=opened):
                everything = list(range(len(payment(links, opened, links))))
                self.assertEqual(payment(links, opened, 0), [])
                self.assertEqual(payment(links, opened, links), everything)
                self.assertEqual((ways(links, opened, 0), ways(links, opened, links)), (1, 1))
                self.assertIs(payable(links, opened, 0), True)
                self.assertIs(payable(links, opened, links), True)

    def test_pieces_of_one_link_that_are_not_opened_count_too(self):
        self.assertEqual([ways(5, [1, 3], amount) for amount in range(6)], [math.comb(5, k) for k in range(6)])

    def test_all_eight_links_opened(self):
        self.assertEqual([ways(8, list(range(8)), amount) for amount in range(9)], [math.comb(8, k) for k in range(9)])

    def test_the_longest_row_with_eight_opened_at_its_start(self):
        opened = list(range(8))
        rest = MOST_LINKS - 8
        sizes = [1] * 8 + [rest]
        with answered_soon():
            for few in range(9):
                self.assert_paid(MOST_LINKS, opened, few, sizes, math.comb(8, few))
                self.assert_paid(MOST_LINKS, opened, rest + few, sizes, math.comb(8, few))
            for amount in (9, 10, 10 ** 29, rest - 1):
                self.assert_unpayable(MOST_LINKS, opened, amount)

    def assert_all_as_gone_through(self, sizes, amounts):
        links, opened = opened_between(sizes)
        whole = []
        for size in sizes:
            whole += [size, 1]
        whole = whole[:-1]
        counts = counts_by_amount(whole)
        for amount in amounts(sorted(counts), links):
            if counts[amount]:
                self.assert_paid(links, opened, amount, whole, counts[amount])
            else:
                self.assert_unpayable(links, opened, amount)

    def test_long_rows_with_eight_opened(self):
        def some(payables, links):
            near = [total + by for total in payables[::97] for by in (-1, 0, 1)]
            return [amount for amount in near if 0 <= amount <= links] + [links // 2, links // 3, links]

        spread = [(10 ** 30 - 8) // 1023 * 2 ** k for k in range(8)]
        spread.append(10 ** 30 - 8 - sum(spread))
        for sizes in (spread, spread[::-1], [10 ** 29] * 9, [3 ** (6 * k) + k for k in range(9)]):
            with answered_soon(60):
                self.assert_all_as_gone_through(sizes, some)

    def test_the_longest_full_row_with_eight_opened(self):
        def some(payables, links):
            return list(range(0, links + 1, 61)) + [links - 1, links]

        sizes = [9 * 2 ** k for k in range(9)]
        links, opened = opened_between(sizes)
        self.assertEqual((links, len(opened)), (4607, 8))
        with answered_soon(60):
            self.assert_all_as_gone_through(sizes, some)

    def test_the_gap_is_the_least_amount_that_is_not_payable(self):
        for links, opened in all_rows(8, 8):
            told = [payable(links, opened, amount) for amount in range(links + 1)]
            self.assertEqual(gap(links, opened), None if all(told) else told.index(False), (links, opened))

    def test_kinds(self):
        self.assertIs(type(payable(links=7, opened=[2], amount=3)), bool)
        self.assertEqual([type(number) for number in payment(links=7, opened=[2], amount=3)], [int, int])
        self.assertIs(type(ways(links=7, opened=[2], amount=3)), int)


class AllPaymentsTogether(unittest.TestCase):
    def test_two_to_the_number_of_pieces(self):
        for links, opened in all_rows(9, 8):
            together = sum(ways(links, opened, amount) for amount in range(links + 1))
            self.assertEqual(together, 2 ** len(sizes_of(links, opened)), (links, opened))

    def test_longer_rows(self):
        for links, opened in [(60, []), (60, [7, 30]), (60, [5, 6, 7, 20, 31, 44, 58, 59])]:
            together = sum(ways(links, opened, amount) for amount in range(links + 1))
            self.assertEqual(together, 2 ** len(sizes_of(links, opened)), (links, opened))


class Refusals(unittest.TestCase):
    def assert_refused(self, error, links, opened, amount):
        for ask in ASKED:
            assert_refused(self, error, ask, links, opened, amount)

    def test_more_than_eight_opened(self):
        for ask in ASKED:
            ask(500, list(range(8)), 3)
        for count in (9, 10, 99, 100):
            self.assert_refused(TooMany, 500, list(range(count)), 3)
        self.assert_refused(TooMany, 9, list(range(9)), 3)

    def test_amounts(self):
        for links, opened in [(1, []), (1, [0]), (7, [2]), (MOST_LINKS, [4])]:
            for amount in (-1, -2, -10 ** 32, links + 1, links + 2, 10 ** 32):
                self.assert_refused(NoAmount, links, opened, amount)

    def test_too_many_ahead_of_the_amount(self):
        for amount in (-1, 21):
            self.assert_refused(TooMany, 20, list(range(9)), amount)


class HandedInAndTold(unittest.TestCase):
    def test_what_is_handed_in_stays(self):
        for opened, amount in [([2, 3, 5], 4), ([2, 3, 5], -1), (list(range(9)), 4), ([3, 1], 4)]:
            before = list(opened)
            for ask in ASKED:
                try:
                    ask(9, opened, amount)
                except (NoAmount, NoOpened, TooMany):
                    pass
                self.assertEqual(opened, before)

    def test_a_later_change_of_what_was_handed_in(self):
        opened = [2]
        told = payment(7, opened, 6)
        self.assertEqual((told, ways(7, opened, 6), payable(7, opened, 6)), ([0, 2], 1, True))
        opened[0] = 3
        opened.append(5)
        self.assertEqual(told, [0, 2])
        self.assertEqual((ways(7, opened, 6), ways(7, [2], 6), ways(7, [3], 5)), (4, 1, 0))
        self.assertEqual(payment(7, [2], 6), [0, 2])
        self.assertIs(payable(7, [3], 5), False)

    def test_a_change_of_what_was_told(self):
        for links, opened, amount in [(7, [2], 0), (7, [2], 5), (7, [2], 7), (3, [0, 1, 2], 3)]:
            first = payment(links, opened, amount)
            expected = list(first)
            first.append(99)
            first[0] = 98
            self.assertEqual(payment(links, opened, amount), expected)
            self.assertEqual(payment(links, opened, links), list(range(3)))

    def test_each_asking_is_told_a_list_of_its_own(self):
        for links, opened, amount in [(5, [], 0), (3, [0, 1, 2], 3), (7, [2], 5)]:
            first, second = payment(links, opened, amount), payment(links, opened, amount)
            self.assertIsNot(first, second)
            self.assertIsNot(first, opened)
