"""Short rows written as texts, a sign for each link."""

from linkpay.errors import NoNote
from linkpay.rows import check_row

MOST_SIGNS = 60


def check_length(links):
    if not 1 <= links <= MOST_SIGNS:
        raise NoNote(f"a note is of 1 to {MOST_SIGNS} links, not {links}")


def shown(links, opened):
    check_row(links, opened)
    check_length(links)
    return "".join(["o" if link in opened else "-" for link in range(links)])


def read(text):
    links = len(text)
    check_length(links)
    opened = []
    for link, sign in enumerate(text):
        if sign == "o":
            opened.append(link)
        elif sign != "-":
            raise NoNote(f"the sign {sign!r} of link {link} is neither o nor -")
    return (links, opened)
