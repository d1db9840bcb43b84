"""The fewest openings with which a row is full."""

from linkpay.errors import NoCount
from linkpay.rows import check_links, gap

MOST_OPENINGS = 100
MOST_LINKS_FOR_ALL = 23


def longest(openings):
    if not 0 <= openings <= MOST_OPENINGS:
        raise NoCount(f"openings are from 0 to {MOST_OPENINGS}, not {openings}")
    # The opened links alone pay so many amounts, and each other piece doubles them at most.
    amounts = openings + 1
    for piece in range(openings + 1):
        amounts *= 2
    # Nought is an amount too.
    return amounts - 1


def fewest(links):
    check_links(links)
    openings = 0
    while longest(openings) < links:
        openings += 1
    return openings


def opened_for(links):
    openings = fewest(links)
    opened = []
    reach = openings
    for place in range(openings):
        # The opened links and the pieces so far pay all amounts up to reach, so a piece of reach + 1 links
        # is the largest that leaves no gap. Where the row is used up, the other opened links follow at once.
        reach += min(reach + 1, links - reach)
        # All openings count in reach from the start, but only so many lie to the left.
        opened.append(reach - openings + place)
    return opened


def rising_lists(links, count):
    told = [[]]
    for place in range(count):
        longer = []
        for before in told:
            first = before[-1] + 1 if before else 0
            for link in range(first, links):
                longer.append(before + [link])
        told = longer
    return told


def all_full(links):
    openings = fewest(links)
    if links > MOST_LINKS_FOR_ALL:
        raise NoCount(f"all lists are told of rows of at most {MOST_LINKS_FOR_ALL} links, not {links}")
    return [opened for opened in rising_lists(links, openings) if gap(links, opened) is None]
