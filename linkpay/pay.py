"""Payments of amounts with the pieces of a row."""

from linkpay.errors import NoAmount, TooMany
from linkpay.rows import check_row, sizes

MOST_OPENED_TO_PAY = 8


def check_few_opened(links, opened):
    check_row(links, opened)
    if len(opened) > MOST_OPENED_TO_PAY:
        raise TooMany(f"payments are told where at most {MOST_OPENED_TO_PAY} links are opened")


def check_amount(links, opened, amount):
    check_few_opened(links, opened)
    if not 0 <= amount <= links:
        raise NoAmount(f"an amount is from 0 to {links}, not {amount}")


def with_piece(counts, size):
    grown = dict(counts)
    for total, count in counts.items():
        grown[total + size] = grown.get(total + size, 0) + count
    return grown


def ways(links, opened, amount):
    check_amount(links, opened, amount)
    # Kept by their sums the choices stay few: the opened links are all of one size.
    counts = {0: 1}
    for size in sizes(links, opened):
        counts = with_piece(counts, size)
    return counts.get(amount, 0)


def payment(links, opened, amount):
    check_amount(links, opened, amount)
    found = {0: []}
    for number, size in enumerate(sizes(links, opened)):
        # A copy is walked, so that no sum takes the same piece twice.
        for total in list(found):
            if total + size not in found:
                found[total + size] = found[total] + [number]
    return found.get(amount)


def payable(links, opened, amount):
    return ways(links, opened, amount) > 0
