"""Rows of links with some opened: the pieces they fall into, and their gap."""

from linkpay.errors import NoOpened, NoRow

MOST_OPENED = 100


def check_links(links):
    if not 1 <= links <= 10 ** 30:
        raise NoRow(f"a row has 1 to 10 ** 30 links, not {links}")


def rises_below(numbers, end):
    before = -1
    for number in numbers:
        if not before < number < end:
            return False
        before = number
    return True


def check_row(links, opened):
    check_links(links)
    if len(opened) > MOST_OPENED or not rises_below(opened, links):
        raise NoOpened(f"the opened links are a rising list of at most {MOST_OPENED} numbers from 0 and below {links}")


def pieces(links, opened):
    check_row(links, opened)
    told = []
    first = 0
    for link in opened:
        if first < link:
            told.append((first, link - first))
        told.append((link, 1))
        first = link + 1
    if first < links:
        told.append((first, links - first))
    return told


def sizes(links, opened):
    return [piece[1] for piece in pieces(links, opened)]


def gap(links, opened):
    # Where the smaller pieces pay just the amounts up to reach, a piece of at most reach + 1 links
    # leaves nothing out, and a larger one, like all behind it, is too large for reach + 1.
    reach = 0
    for size in sorted(sizes(links, opened)):
        if size > reach + 1:
            return reach + 1
        reach += size
    return None
