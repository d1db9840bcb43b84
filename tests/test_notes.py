"""Points 1 and 11: rows written as texts, and read."""

import unittest

from linkpay.errors import NoNote
from linkpay.notes import read, shown
from tests.support import MOST_LINKS, all_rows, assert_refused

# All signs that a text may have but the two of a note.
OTHER_SIGNS = [chr(code) for code in [9, 10, *range(32, 127)] if chr(code) not in "o-%"]


def some_opened(links):
    """Some lists of opened links of such a row, each written in a text."""
    yield "-" * links
    yield "o" * links
    for place in range(links):
        yield "-" * place + "o" + "-" * (links - place - 1)
        yield "o" * place + "-" + "o" * (links - place - 1)
    for every in (2, 3, 5):
        for first in range(every):
            yield "".join("o" if link % every == first else "-" for link in range(links))


class Notes(unittest.TestCase):
    def test_written_out(self):
        for links, opened, text in [(7, [2], "--o----"), (1, [], "-"), (1, [0], "o"), (4, [0, 3], "o--o"),
                                    (5, [1, 2, 3], "-ooo-"), (3, [0, 1, 2], "ooo"), (6, [], "------")]:
            self.assertEqual(shown(links, opened), text)
            self.assertEqual(read(text), (links, opened))

    def test_every_small_row(self):
        for links, opened in all_rows(9, 9):
            text = shown(links, opened)
            self.assertEqual([text[link] for link in opened], ["o"] * len(opened))
            self.assertEqual((len(text), text.count("-")), (links, links - len(opened)))
            self.assertEqual(read(text), (links, opened))

    def test_rows_of_one_to_sixty_links(self):
        for links in range(1, 61):
            for text in some_opened(links):
                told = read(text)
                self.assertEqual(told, (links, [link for link in range(links) if text[link] == "o"]))
                self.assertEqual(shown(*told), text)

    def test_more_than_eight_opened_are_shown(self):
        self.assertEqual(shown(60, list(range(60))), "o" * 60)
        self.assertEqual(shown(20, list(range(9))), "o" * 9 + "-" * 11)

    def test_kinds(self):
        self.assertIs(type(shown(links=7, opened=[2])), str)
        told = read(text="--o----")
        self.assertEqual([type(part) for part in (told, *told, *told[1])], [tuple, int, list, int])


class Refusals(unittest.TestCase):
    def test_rows_that_are_too_long(self):
        shown(60, [])
        for links in (61, 62, 100, 500, MOST_LINKS):
            for opened in ([], [0], [links - 1], list(range(61))):
                assert_refused(self, NoNote, shown, links, opened)
        assert_refused(self, NoNote, shown, 500, list(range(100)))

    def test_the_empty_text(self):
        assert_refused(self, NoNote, read, "")

    def test_texts_that_are_too_long(self):
        for count in (61, 62, 100, 200):
            for text in ("-" * count, "o" * count, ("o--" * 70)[:count]):
                assert_refused(self, NoNote, read, text)

    def test_another_sign_at_any_place(self):
        for sign in OTHER_SIGNS:
            assert_refused(self, NoNote, read, sign)
            for text in ("--o----", "oo"):
                for place in range(len(text)):
                    assert_refused(self, NoNote, read, text[:place] + sign + text[place + 1:])
                for place in range(len(text) + 1):
                    assert_refused(self, NoNote, read, text[:place] + sign + text[place:])

    def test_another_sign_at_any_place_of_a_long_text(self):
        for place in range(60):
            for sign in ("O", "0", "_", " ", "\n", "~"):
                text = ("--o" * 20)[:place] + sign + ("--o" * 20)[place + 1:]
                assert_refused(self, NoNote, read, text)

    def test_a_line_end_or_blanks_around(self):
        for text in ("-", "o", "--o----", "o" * 59, "-" * 60):
            for around in ("\n", "\t", " ", "\n\n", " \n"):
                assert_refused(self, NoNote, read, text + around)
                assert_refused(self, NoNote, read, around + text)


class HandedInAndTold(unittest.TestCase):
    def test_what_is_handed_in_stays(self):
        opened = [2, 3, 5]
        self.assertEqual(shown(9, opened), "--oo-o---")
        self.assertEqual(opened, [2, 3, 5])

    def test_a_later_change_of_what_was_handed_in(self):
        opened = [2]
        self.assertEqual(shown(7, opened), "--o----")
        opened[0] = 3
        self.assertEqual(shown(7, opened), "---o---")
        self.assertEqual(shown(7, [2]), "--o----")

    def test_a_change_of_what_was_told(self):
        for text in ("--o----", "-----", "ooo"):
            links, opened = read(text)
            expected = (links, list(opened))
            opened.append(99)
            opened[0] = 98
            self.assertEqual(read(text), expected)
            self.assertIsNot(read(text)[1], read(text)[1])
