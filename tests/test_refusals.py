"""Point 2: what every function that is asked of a row with opened links refuses, ahead of all else."""

import unittest

from linkpay.days import step
from linkpay.errors import NoOpened, NoRow
from linkpay.notes import shown
from linkpay.pay import payable, payment, ways
from linkpay.rows import gap, pieces
from tests.support import MOST_LINKS, assert_refused

# What is handed in behind the opened links: first what is refused nowhere, then what would be refused later.
ASKED = {
    pieces: [()],
    gap: [()],
    payable: [(0,), (-1,), (10 ** 32,)],
    payment: [(0,), (-1,), (10 ** 32,)],
    ways: [(0,), (-1,), (10 ** 32,)],
    step: [([],), ([-1],), ([1, 0],), (list(range(200)),)],
    shown: [()],
}
NO_ROWS = (0, -1, -5, -10 ** 32, MOST_LINKS + 1, 10 ** 32)
HUNDRED_AND_ONE = list(range(101))


class Refusals(unittest.TestCase):
    def assert_all_refuse(self, error, links, opened):
        for ask, endings in ASKED.items():
            for behind in endings:
                assert_refused(self, error, ask, links, opened, *behind)

    def test_numbers_of_links(self):
        for links in NO_ROWS:
            self.assert_all_refuse(NoRow, links, [])

    def test_opened_links_that_the_row_has_not(self):
        for opened in ([-1], [-10 ** 32], [5], [6], [10 ** 32], [-1, 2], [2, 5], [0, 1, 2, 3, 4, 5]):
            self.assert_all_refuse(NoOpened, 5, opened)
        self.assert_all_refuse(NoOpened, 1, [1])
        self.assert_all_refuse(NoOpened, MOST_LINKS, [MOST_LINKS])

    def test_opened_links_told_twice(self):
        for opened in ([0, 0], [4, 4], [1, 2, 2], [1, 1, 2], [1, 2, 1]):
            self.assert_all_refuse(NoOpened, 5, opened)

    def test_opened_links_that_do_not_rise(self):
        for opened in ([1, 0], [0, 2, 1], [4, 3, 2, 1, 0], [1, 3, 2, 4]):
            self.assert_all_refuse(NoOpened, 5, opened)

    def test_more_than_a_hundred_opened(self):
        for links in (101, 500, MOST_LINKS):
            self.assert_all_refuse(NoOpened, links, HUNDRED_AND_ONE)
        self.assert_all_refuse(NoOpened, 500, list(range(200)))

    def test_the_row_is_refused_first(self):
        for links in NO_ROWS:
            for opened in ([-1], [10 ** 32], [1, 1], [2, 1], list(range(9)), HUNDRED_AND_ONE):
                self.assert_all_refuse(NoRow, links, opened)

    def test_opened_links_ahead_of_too_many_and_of_too_long(self):
        nine = list(range(9))
        for opened in (nine + [8], nine + [61], nine + [-1], [1, 0] + nine[2:], HUNDRED_AND_ONE):
            self.assert_all_refuse(NoOpened, 61, opened)

    def test_the_least_and_the_most_are_allowed(self):
        for ask, endings in ASKED.items():
            ask(1, [], *endings[0])
            ask(1, [0], *endings[0])
        for ask in (pieces, gap):
            ask(MOST_LINKS, [])
            ask(MOST_LINKS, [MOST_LINKS - 1])
            ask(500, list(range(100)))
        for ask in (payable, payment, ways):
            ask(MOST_LINKS, [MOST_LINKS - 1], 0)
        step(MOST_LINKS, [MOST_LINKS - 1], [])
