"""Points 1, 3 and 6: the pieces of rows and their gap."""

import unittest

from linkpay.errors import NoOpened
from linkpay.rows import gap, pieces
from tests.support import (MOST_LINKS, all_rows, answered_soon, counts_by_amount, least_missing, opened_between,
                           pieces_by_links, sizes_of)


class Pieces(unittest.TestCase):
    def test_no_opened_link(self):
        self.assertEqual(pieces(5, []), [(0, 5)])

    def test_opened_in_the_middle(self):
        self.assertEqual(pieces(7, [2]), [(0, 2), (2, 1), (3, 4)])
        self.assertEqual(pieces(10, [2, 7]), [(0, 2), (2, 1), (3, 4), (7, 1), (8, 2)])

    def test_first_link_opened(self):
        self.assertEqual(pieces(4, [0]), [(0, 1), (1, 3)])

    def test_last_link_opened(self):
        self.assertEqual(pieces(4, [3]), [(0, 3), (3, 1)])

    def test_first_and_last_link_opened(self):
        self.assertEqual(pieces(4, [0, 3]), [(0, 1), (1, 2), (3, 1)])

    def test_opened_beside_one_another(self):
        self.assertEqual(pieces(7, [2, 3, 4]), [(0, 2), (2, 1), (3, 1), (4, 1), (5, 2)])

    def test_a_piece_of_one_link_between_opened_ones(self):
        self.assertEqual(pieces(5, [1, 3]), [(0, 1), (1, 1), (2, 1), (3, 1), (4, 1)])

    def test_all_links_opened(self):
        self.assertEqual(pieces(3, [0, 1, 2]), [(0, 1), (1, 1), (2, 1)])
        self.assertEqual(pieces(100, list(range(100))), [(link, 1) for link in range(100)])

    def test_one_link(self):
        self.assertEqual(pieces(1, []), [(0, 1)])
        self.assertEqual(pieces(1, [0]), [(0, 1)])

    def test_the_longest_row(self):
        last = MOST_LINKS - 1
        self.assertEqual(pieces(MOST_LINKS, []), [(0, MOST_LINKS)])
        self.assertEqual(pieces(MOST_LINKS, [0, last]), [(0, 1), (1, MOST_LINKS - 2), (last, 1)])
        self.assertEqual(pieces(MOST_LINKS, [10 ** 29]),
                         [(0, 10 ** 29), (10 ** 29, 1), (10 ** 29 + 1, 9 * 10 ** 29 - 1)])

    def test_a_hundred_opened(self):
        expected = []
        for k in range(100):
            expected += [(3 * k, 2), (3 * k + 2, 1)]
        opened = [3 * k + 2 for k in range(100)]
        self.assertEqual(pieces(300, opened), expected)
        with answered_soon():
            self.assertEqual(pieces(MOST_LINKS, opened), expected + [(300, MOST_LINKS - 300)])

    def test_every_small_row(self):
        for links, opened in all_rows(9, 9):
            self.assertEqual(pieces(links, opened), pieces_by_links(links, opened), (links, opened))

    def test_kinds(self):
        told = pieces(links=7, opened=[2])
        self.assertIs(type(told), list)
        for piece in told:
            self.assertEqual([type(piece), type(piece[0]), type(piece[1])], [tuple, int, int])


def doubling_sizes(links, count):
    """Sizes of pieces between count opened links, each as large as leaves no gap, and these links together."""
    sizes = []
    reach = count
    while reach < links:
        size = min(reach + 1, links - reach)
        sizes.append(size)
        reach += size
    return sizes


def row_of_sizes(sizes, count):
    """A row of these pieces, an opened link between each two, the rest of the count behind the last."""
    links, opened = opened_between(sizes)
    rest = count - len(opened)
    return links + rest, opened + list(range(links, links + rest))


class Gap(unittest.TestCase):
    def test_full_rows(self):
        for links, opened in [(1, []), (1, [0]), (2, [0]), (3, [1]), (3, [0, 1, 2]), (7, [2]), (7, [4]), (23, [3, 10])]:
            with self.subTest(links=links, opened=opened):
                self.assertIsNone(gap(links, opened))

    def test_rows_with_a_gap(self):
        cases = [(2, [], 1), (5, [], 1), (5, [0], 2), (7, [3], 2), (8, [2], 4), (10, [0, 1, 2], 4), (24, [3, 10], 12)]
        for links, opened, least in cases:
            with self.subTest(links=links, opened=opened):
                self.assertEqual(gap(links, opened), least)

    def test_a_gap_in_front_of_the_last_amount(self):
        self.assertEqual(gap(2, []), 1)
        self.assertEqual(gap(MOST_LINKS, [0, MOST_LINKS - 1]), 3)

    def test_every_small_row(self):
        for links, opened in all_rows(10, 10):
            amounts = counts_by_amount(sizes_of(links, opened))
            self.assertEqual(gap(links, opened), least_missing(links, amounts), (links, opened))

    def test_rows_of_some_length_with_few_opened(self):
        for links in (23, 24, 31):
            for left in range(links):
                for right in range(left + 1, links):
                    amounts = counts_by_amount(sizes_of(links, [left, right]))
                    self.assertEqual(gap(links, [left, right]), least_missing(links, amounts), (links, left, right))

    def test_the_longest_rows_without_opened(self):
        self.assertEqual(gap(MOST_LINKS, []), 1)

    def test_long_full_rows(self):
        for links, count in [(MOST_LINKS, 100), (MOST_LINKS - 1, 99), (10 ** 29 + 7, 93)]:
            sizes = doubling_sizes(links, count)
            self.assertLessEqual(len(sizes), count + 1)
            for order in (sizes, sizes[::-1], sizes[1::2] + sizes[::2]):
                asked, opened = row_of_sizes(order, count)
                self.assertEqual((asked, len(opened)), (links, count))
                with answered_soon():
                    self.assertIsNone(gap(links, opened))

    def test_long_rows_with_a_gap(self):
        # One link moved from the largest piece to another one: that one is then too large by one.
        sizes = doubling_sizes(MOST_LINKS, 100)
        for place in (0, 1, 40, len(sizes) - 3):
            moved = list(sizes)
            moved[place] += 1
            moved[-2] -= 1
            for order in (moved, moved[::-1]):
                links, opened = row_of_sizes(order, 100)
                self.assertEqual((links, len(opened)), (MOST_LINKS, 100))
                with answered_soon():
                    self.assertEqual(gap(links, opened), sizes[place])

    def test_a_hundred_opened_beside_one_another(self):
        self.assertEqual(gap(MOST_LINKS, list(range(100))), 101)
        self.assertIsNone(gap(100, list(range(100))))
        self.assertIsNone(gap(201, list(range(100))))
        self.assertEqual(gap(202, list(range(100))), 101)

    def test_kind(self):
        self.assertIs(type(gap(links=8, opened=[2])), int)


class HandedInAndTold(unittest.TestCase):
    def test_what_is_handed_in_stays(self):
        opened = [2, 3, 5]
        pieces(9, opened)
        gap(9, opened)
        self.assertEqual(opened, [2, 3, 5])

    def test_what_is_refused_stays(self):
        for opened in ([3, 1, 1], [0, 9], list(range(101))):
            before = list(opened)
            for ask in (pieces, gap):
                with self.assertRaises(NoOpened):
                    ask(9, opened)
            self.assertEqual(opened, before)

    def test_a_later_change_of_what_was_handed_in(self):
        opened = [2]
        told = pieces(7, opened)
        self.assertIsNone(gap(7, opened))
        opened[0] = 3
        opened.append(5)
        self.assertEqual(told, [(0, 2), (2, 1), (3, 4)])
        self.assertEqual(pieces(7, opened), [(0, 3), (3, 1), (4, 1), (5, 1), (6, 1)])
        self.assertEqual(gap(7, [3]), 2)
        self.assertIsNone(gap(7, [2]))

    def test_a_change_of_what_was_told(self):
        for links, opened in [(7, [2]), (5, []), (3, [0, 1, 2])]:
            first = pieces(links, opened)
            expected = list(first)
            first.append((0, 0))
            first[0] = None
            self.assertEqual(pieces(links, opened), expected)

    def test_each_asking_is_told_a_list_of_its_own(self):
        opened = [2]
        first, second = pieces(7, opened), pieces(7, opened)
        self.assertIsNot(first, second)
        self.assertIsNot(first, opened)
