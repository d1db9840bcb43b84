"""Points 1 and 8 to 10: how few openings make a row full, and which."""

import itertools
import math
import unittest

from linkpay.errors import NoCount, NoRow
from linkpay.fewest import all_full, fewest, longest, opened_for
from linkpay.rows import gap
from tests.support import MOST_LINKS, answered_soon, assert_refused, counts_by_amount, least_missing, sizes_of

NO_ROWS = (0, -1, -10 ** 32, MOST_LINKS + 1, 10 ** 32)


def full_by_all_choices(links, count):
    """All lists of so many opened links with which the row is full, in their order; all choices are gone through."""
    return [list(opened) for opened in itertools.combinations(range(links), count)
            if least_missing(links, counts_by_amount(sizes_of(links, opened))) is None]


def rows_about_the_longest():
    """Rows as long as can be for a number of openings, one less and one more, up to the longest there are."""
    for openings in range(101):
        for links in range((openings + 1) * 2 ** (openings + 1) - 2, (openings + 1) * 2 ** (openings + 1) + 1):
            if 1 <= links <= MOST_LINKS:
                yield links, openings + (links >= (openings + 1) * 2 ** (openings + 1))


class Longest(unittest.TestCase):
    def test_few_openings(self):
        self.assertEqual([longest(openings) for openings in (0, 1, 2, 3)], [1, 7, 23, 63])

    def test_a_hundred_openings(self):
        self.assertEqual(longest(100), 256065421246102339102334047485951)

    def test_all(self):
        for openings in range(101):
            self.assertEqual(longest(openings), (openings + 1) * 2 ** (openings + 1) - 1)

    def test_refusals(self):
        for openings in (-1, -2, -10 ** 32, 101, 102, 200, 10 ** 32):
            assert_refused(self, NoCount, longest, openings)

    def test_kind(self):
        self.assertIs(type(longest(openings=2)), int)

    def test_no_longer_row_is_full_with_so_many_openings(self):
        for openings in (0, 1, 2):
            for links in range(longest(openings) + 1, longest(openings) + 5):
                self.assertEqual(full_by_all_choices(links, openings), [])


class Fewest(unittest.TestCase):
    def test_few_links(self):
        self.assertEqual([fewest(links) for links in (1, 2, 6, 7, 8, 22, 23, 24, 63, 64)],
                         [0, 1, 1, 1, 2, 2, 2, 3, 3, 4])

    def test_about_the_longest_rows(self):
        rows = list(rows_about_the_longest())
        self.assertEqual(max(openings for links, openings in rows), 93)
        for links, openings in rows:
            self.assertEqual(fewest(links), openings, links)

    def test_the_most_links(self):
        with answered_soon():
            self.assertEqual((fewest(MOST_LINKS), fewest(MOST_LINKS - 1)), (93, 93))

    def test_no_fewer_will_do(self):
        for links in range(1, 31):
            self.assertNotEqual(full_by_all_choices(links, fewest(links)), [])
            if fewest(links) > 0:
                self.assertEqual(full_by_all_choices(links, fewest(links) - 1), [])

    def test_refusals(self):
        for links in NO_ROWS:
            assert_refused(self, NoRow, fewest, links)

    def test_kind(self):
        self.assertIs(type(fewest(links=7)), int)


class OpenedFor(unittest.TestCase):
    def assert_full(self, links):
        told = opened_for(links)
        self.assertIs(type(told), list)
        self.assertEqual(told, sorted(set(told)), links)
        self.assertTrue(all(type(link) is int and 0 <= link < links for link in told), links)
        self.assertEqual(len(told), fewest(links), links)
        self.assertIsNone(gap(links, told), links)

    def test_rows_of_one_to_two_hundred_links(self):
        for links in range(1, 201):
            self.assert_full(links)
            self.assertIsNone(least_missing(links, counts_by_amount(sizes_of(links, opened_for(links)))))

    def test_rows_about_the_longest(self):
        with answered_soon():
            for links, openings in rows_about_the_longest():
                self.assert_full(links)

    def test_long_rows(self):
        with answered_soon():
            for power in range(3, 31):
                for links in (10 ** power, 10 ** power - 1, 7 * 10 ** (power - 1) + power, 3 ** (2 * power)):
                    self.assert_full(links)

    def test_told_again_behind_a_change(self):
        for links in (1, 2, 7, 23, 100, MOST_LINKS):
            first = opened_for(links)
            expected = list(first)
            first.append(99)
            first[0] = -98
            self.assertEqual(opened_for(links), expected)
            self.assertIsNot(opened_for(links), opened_for(links))
            self.assert_full(links)

    def test_refusals(self):
        for links in NO_ROWS:
            assert_refused(self, NoRow, opened_for, links)

    def test_called_by_name(self):
        self.assertEqual(opened_for(links=1), [])


class AllFull(unittest.TestCase):
    def test_written_out(self):
        self.assertEqual(all_full(1), [[]])
        self.assertEqual(all_full(2), [[0], [1]])
        self.assertEqual(all_full(7), [[2], [4]])
        self.assertEqual(all_full(23), [[3, 10], [3, 16], [6, 10], [6, 19], [12, 16], [12, 19]])

    def test_rows_of_one_to_twenty_three_links(self):
        for links in range(1, 24):
            told = all_full(links)
            self.assertEqual(told, sorted(told))
            self.assertEqual({len(opened) for opened in told}, {fewest(links)})
            self.assertEqual(told, full_by_all_choices(links, fewest(links)))
            self.assertIn(opened_for(links), told)

    def test_as_many_as_there_are_orders_of_one_piece_more_than_openings(self):
        for openings in (0, 1, 2):
            self.assertEqual(len(all_full(longest(openings))), math.factorial(openings + 1))

    def test_too_many_links(self):
        for links in (24, 25, 63, 10 ** 6, MOST_LINKS):
            with answered_soon():
                assert_refused(self, NoCount, all_full, links)

    def test_no_rows(self):
        for links in NO_ROWS:
            assert_refused(self, NoRow, all_full, links)

    def test_kinds(self):
        told = all_full(links=7)
        self.assertEqual([type(part) for part in (told, *told, told[0][0])], [list, list, list, int])

    def test_no_two_lists_are_one(self):
        for links in (1, 7, 8, 23):
            first, second = all_full(links), all_full(links)
            lists = [first, second, *first, *second]
            self.assertEqual(len({id(part) for part in lists}), len(lists))

    def test_told_again_behind_a_change(self):
        for links in (1, 7, 8, 23):
            told = all_full(links)
            expected = [list(opened) for opened in told]
            told[0].append(99)
            self.assertEqual(told[1:], expected[1:])
            told.append([98])
            self.assertEqual(all_full(links), expected)
