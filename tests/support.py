"""What several test files need: rows to ask of, and answers found by going through everything."""

import contextlib
import copy
import itertools
import signal
from collections import Counter

MOST_LINKS = 10 ** 30


def all_rows(most_links, most_opened):
    """Every row of up to most_links links with every list of up to most_opened opened ones."""
    for links in range(1, most_links + 1):
        for count in range(min(links, most_opened) + 1):
            for opened in itertools.combinations(range(links), count):
                yield links, list(opened)


def pieces_by_links(links, opened):
    """The pieces, found by walking link by link."""
    found = []
    for link in range(links):
        alone = link in opened
        if alone or link == 0 or link - 1 in opened:
            found.append([link, 0])
        found[-1][1] += 1
    return [tuple(piece) for piece in found]


def choices_by_amount(sizes):
    """All choices of pieces' numbers, in lists under the amount that they pay."""
    found = {}
    for count in range(len(sizes) + 1):
        for choice in itertools.combinations(range(len(sizes)), count):
            found.setdefault(sum(sizes[k] for k in choice), []).append(list(choice))
    return found


def counts_by_amount(sizes):
    """How many choices pay each amount; every choice is gone through."""
    sums = [0]
    for size in sizes:
        sums += [total + size for total in sums]
    return Counter(sums)


def least_missing(links, amounts):
    """The least amount of the row that is not among the given ones, or None."""
    amount = 0
    while amount in amounts:
        amount += 1
    return amount if amount <= links else None


def opened_between(sizes):
    """The links, and the opened ones, of a row of such pieces with one opened link behind each but the last."""
    opened = []
    links = 0
    for size in sizes[:-1]:
        links += size
        opened.append(links)
        links += 1
    return links + sizes[-1], opened


def sizes_of(links, opened):
    return [size for first, size in pieces_by_links(links, opened)]


def assert_refused(case, error, ask, *handed):
    """Fails unless ask refuses what is handed to it with just this error, and leaves the lists as they were."""
    before = copy.deepcopy(handed)
    with case.subTest(ask=ask.__name__, handed=before):
        with case.assertRaises(error) as caught:
            ask(*handed)
        case.assertIs(type(caught.exception), error)
        case.assertEqual(handed, before)


@contextlib.contextmanager
def answered_soon(seconds=20):
    """Fails where the answers within take longer than so many seconds."""
    def late(number, frame):
        raise AssertionError(f"no answer within {seconds} seconds")

    before = signal.signal(signal.SIGALRM, late)
    signal.alarm(seconds)
    try:
        yield
    finally:
        signal.alarm(0)
        signal.signal(signal.SIGALRM, before)
