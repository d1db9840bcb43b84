"""Points 1 and 7: steps from one amount to the next."""

import itertools
import unittest

from linkpay.days import step
from linkpay.errors import NoAmount, NoPayment, TooMany
from linkpay.pay import payment
from tests.support import (MOST_LINKS, all_rows, answered_soon, assert_refused, counts_by_amount, opened_between,
                           sizes_of)


def all_choices(count):
    """All rising lists of numbers from nought and below count."""
    for length in range(count + 1):
        for choice in itertools.combinations(range(count), length):
            yield list(choice)


class Steps(unittest.TestCase):
    def stepped(self, links, opened, held, sizes):
        """What is held behind the step, once the step has been looked at."""
        told = step(links, opened, held)
        asked = (links, opened, held, told)
        self.assertIs(type(told), tuple, asked)
        self.assertEqual([type(part) for part in told], [list, list], asked)
        given, taken_back = told
        others = [number for number in range(len(sizes)) if number not in held]
        for part, whence in ((given, others), (taken_back, held)):
            self.assertEqual(part, sorted(set(part)), asked)
            self.assertLessEqual(set(part), set(whence), asked)
        now = sorted(set(held) - set(taken_back) | set(given))
        self.assertEqual(sum(sizes[number] for number in now), sum(sizes[number] for number in held) + 1, asked)
        return now

    def test_ordinary_steps(self):
        for held, told in [([], ([1], [])), ([1], ([0], [1])), ([0], ([1], [])), ([0, 1], ([2], [0, 1])),
                           ([2], ([1], [])), ([1, 2], ([0], [1])), ([0, 2], ([1], []))]:
            self.assertEqual(step(7, [2], held), told, held)

    def test_every_step_of_every_small_row(self):
        for links, opened in all_rows(7, 7):
            sizes = sizes_of(links, opened)
            amounts = counts_by_amount(sizes)
            for held in all_choices(len(sizes)):
                if sum(sizes[number] for number in held) + 1 in amounts:
                    self.stepped(links, opened, held, sizes)
                else:
                    assert_refused(self, NoPayment, step, links, opened, held)

    def test_every_day_of_full_rows(self):
        for sizes in ([1], [2, 4], [4, 2], [3, 12, 6], [16, 4, 8, 32], [80, 40, 5, 10, 20]):
            links, opened = opened_between(sizes)
            whole = sizes_of(links, opened)
            held = []
            for day in range(1, links + 1):
                held = self.stepped(links, opened, held, whole)
                self.assertEqual(sum(whole[number] for number in held), day)
            self.assertEqual(held, list(range(len(whole))))
            assert_refused(self, NoPayment, step, links, opened, held)

    def test_some_days_of_the_longest_full_row_with_eight_opened(self):
        links, opened = opened_between([9 * 2 ** k for k in range(9)])
        whole = sizes_of(links, opened)
        with answered_soon(60):
            for amount in list(range(0, links, 97)) + [links - 1]:
                self.stepped(links, opened, payment(links, opened, amount), whole)

    def test_long_rows(self):
        links = MOST_LINKS
        # Pieces of one link to the left and to the right, and two long ones of which one is larger by one.
        opened = [0, links // 2, links - 1]
        sizes = [1, links // 2 - 1, 1, links // 2 - 2, 1]
        with answered_soon():
            for held in ([], [0], [0, 2], [1], [3], [0, 3], [1, 2], [0, 2, 3], [2, 3, 4], [1, 3], [1, 2, 3, 4]):
                self.stepped(links, opened, held, sizes)
            for held in ([0, 2, 4], [0, 1, 2, 4], [0, 1, 2, 3, 4]):
                assert_refused(self, NoPayment, step, links, opened, held)

    def test_all_eight_links_opened(self):
        opened = list(range(8))
        for held in all_choices(8):
            if len(held) < 8:
                self.stepped(8, opened, held, [1] * 8)

    def test_called_by_names(self):
        self.assertEqual(step(links=7, opened=[2], held=[0, 1]), ([2], [0, 1]))


class Refusals(unittest.TestCase):
    def test_the_next_amount_is_not_payable(self):
        for links, opened, held in [(2, [], []), (5, [0], [0]), (7, [3], [1]), (8, [2], [0, 1]), (9, [4], [0, 1]),
                                    (MOST_LINKS, [], []), (MOST_LINKS, [0], [0])]:
            assert_refused(self, NoPayment, step, links, opened, held)

    def test_all_links_are_held(self):
        for links, opened, held in [(1, [], [0]), (1, [0], [0]), (5, [], [0]), (7, [2], [0, 1, 2]),
                                    (8, list(range(8)), list(range(8))), (MOST_LINKS, [], [0]),
                                    (MOST_LINKS, [4], [0, 1, 2])]:
            assert_refused(self, NoPayment, step, links, opened, held)

    def test_held_lists_that_are_none(self):
        below = ([-1], [-3], [-10 ** 32], [-1, 0], [0, -1])
        beyond = ([3], [4], [10 ** 32], [0, 3], [0, 1, 2, 3], list(range(200)))
        twice = ([0, 0], [2, 2], [0, 1, 1], [0, 0, 1], [0, 1, 0])
        exchanged = ([1, 0], [2, 1], [0, 2, 1], [1, 0, 2], [2, 1, 0])
        for held in below + beyond + twice + exchanged:
            assert_refused(self, NoAmount, step, 7, [2], held)

    def test_pieces_are_numbered_not_links(self):
        assert_refused(self, NoAmount, step, 7, [], [1])
        assert_refused(self, NoAmount, step, 7, [0], [2])
        assert_refused(self, NoAmount, step, 3, [0, 1, 2], [3])

    def test_held_is_refused_ahead_of_the_next_amount(self):
        for held in ([-1], [1], [0, 0], [0, 1]):
            assert_refused(self, NoAmount, step, 5, [], held)

    def test_more_than_eight_opened(self):
        step(500, list(range(8)), [0])
        for count in (9, 10, 99, 100):
            for held in ([], [0], [-1], [1, 0], [500], list(range(200))):
                assert_refused(self, TooMany, step, 500, list(range(count)), held)
        assert_refused(self, TooMany, step, 9, list(range(9)), list(range(9)))


class HandedInAndTold(unittest.TestCase):
    def test_what_is_handed_in_stays(self):
        for held in ([], [1], [0, 1], [0, 2]):
            opened, before = [2], list(held)
            step(7, opened, held)
            self.assertEqual((opened, held), ([2], before))

    def test_a_later_change_of_what_was_handed_in(self):
        opened, held = [2], [0, 1]
        told = step(7, opened, held)
        opened[0] = 4
        held.append(2)
        held[0] = 1
        self.assertEqual(told, ([2], [0, 1]))
        self.assertEqual(step(7, [2], [0, 1]), ([2], [0, 1]))
        self.assertEqual(step(7, opened, []), ([1], []))

    def test_a_change_of_what_was_told(self):
        for held in ([], [1], [0, 1], [0, 2]):
            opened, before = [2], list(held)
            given, taken_back = step(7, opened, held)
            expected = (list(given), list(taken_back))
            for part in (given, taken_back):
                part.append(99)
                part[0] = 98
            self.assertEqual((opened, held), ([2], before))
            self.assertEqual(step(7, opened, held), expected)

    def test_no_two_lists_are_one(self):
        for links, opened, held in [(7, [2], []), (7, [2], [0, 1]), (3, [0, 1, 2], [0])]:
            first, second = step(links, opened, held), step(links, opened, held)
            lists = [*first, *second, opened, held]
            self.assertEqual(len({id(part) for part in lists}), len(lists))
