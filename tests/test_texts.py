"""Promises 1 and 12: a laying written as a text, and read back; all else is refused."""

import itertools
import unittest

from tests.helpers import FLOORS, block, drawn, floors_in, moved, slow_layings, strange_things
from tilefloor.errors import BadText, FloorError
from tilefloor.floors import checked, checked_laying
from tilefloor.texts import read, shown


def size(floor):
    return max(row for row, column in floor) + 1, max(column for row, column in floor) + 1


class Shown(unittest.TestCase):
    def test_one_stone(self):
        self.assertEqual(shown((((0, 0), (0, 1)),)), "<>\n")
        self.assertEqual(shown((((0, 0), (1, 0)),)), "^\nv\n")

    def test_empty_first_rows_and_columns(self):
        self.assertEqual(shown((((2, 1), (2, 2)),)), "...\n...\n.<>\n")
        self.assertEqual(shown((((1, 3), (2, 3)),)), "....\n...^\n...v\n")
        self.assertEqual(shown((((7, 6), (7, 7)),)), "........\n" * 7 + "......<>\n")

    def test_lines_are_all_as_long_as_the_last_column_asks(self):
        self.assertEqual(shown((((0, 0), (0, 1)), ((2, 3), (3, 3)))), "<>..\n....\n...^\n...v\n")
        self.assertEqual(shown((((0, 2), (0, 3)), ((1, 0), (2, 0)))), "..<>\n^...\nv...\n")

    def test_a_frame(self):
        self.assertEqual(
            [shown(laying) for laying in slow_layings(FLOORS["frame"])], ["<>^\n^.v\nv<>\n", "^<>\nv.^\n<>v\n"]
        )

    def test_every_floor_within_three_by_four(self):
        for floor in floors_in(3, 4):
            for laying in slow_layings(floor):
                self.assertEqual(shown(laying), drawn(laying, *size(floor)))

    def test_floors_of_many_shapes(self):
        for name, floor in FLOORS.items():
            with self.subTest(name):
                for laying in slow_layings(floor):
                    told = shown(laying)
                    self.assertIs(type(told), str)
                    self.assertEqual(told, drawn(laying, *size(floor)))

    def test_somewhat_beyond_the_bounds_is_not_refused(self):
        for floor in (block(5, 6), block(2, 13), block(2, 2, 8, 8)):
            laying = slow_layings(floor)[0]
            self.assertEqual(shown(laying), drawn(laying, *size(floor)))
        self.assertEqual(shown(()), "")


class Read(unittest.TestCase):
    def assert_read(self, floor, laying):
        told = read(drawn(laying, *size(floor)))
        self.assertIs(type(told), tuple)
        self.assertEqual(told, (floor, laying))
        self.assertEqual(checked(told[0]), floor)
        self.assertEqual(checked_laying(told[0], told[1]), laying)
        self.assertEqual(shown(told[1]), drawn(laying, *size(floor)))

    def test_one_stone(self):
        self.assertEqual(read("<>\n"), (((0, 0), (0, 1)), (((0, 0), (0, 1)),)))
        self.assertEqual(read("^\nv\n"), (((0, 0), (1, 0)), (((0, 0), (1, 0)),)))

    def test_empty_first_rows_and_columns(self):
        self.assertEqual(read("...\n...\n.<>\n"), (((2, 1), (2, 2)), (((2, 1), (2, 2)),)))
        self.assertEqual(read("..^\n..v\n"), (((0, 2), (1, 2)), (((0, 2), (1, 2)),)))
        for down in range(7):
            for right in range(7):
                for laying in slow_layings(block(2, 2)):
                    self.assert_read(block(2, 2, down, right), moved(laying, down, right))

    def test_empty_rows_and_columns_between(self):
        self.assertEqual(read("<>...<>\n.......\n<>.....\n")[0], ((0, 0), (0, 1), (0, 5), (0, 6), (2, 0), (2, 1)))

    def test_every_floor_within_three_by_four(self):
        for floor in floors_in(3, 4):
            for laying in slow_layings(floor):
                self.assert_read(floor, laying)

    def test_floors_of_many_shapes(self):
        for name, floor in FLOORS.items():
            with self.subTest(name):
                for laying in slow_layings(floor):
                    self.assert_read(floor, laying)

    def test_24_squares_and_the_last_lines(self):
        self.assertEqual(len(read("<><><><>\n" * 3)[0]), 24)
        self.assertEqual(len(read("........\n" * 5 + "<><><><>\n" * 3)[0]), 24)
        self.assertEqual(len(read((".....^^^\n" + ".....vvv\n") * 4)[0]), 24)


class BadTexts(unittest.TestCase):
    def assert_refused(self, thing):
        for taken in (BadText, FloorError, ValueError):
            with self.assertRaises(taken) as told:
                read(thing)
            self.assertIs(type(told.exception), BadText)

    def assert_all_refused(self, *texts):
        for text in texts:
            with self.subTest(text):
                self.assert_refused(text)

    def test_things_that_are_no_text(self):
        for place, thing in enumerate(strange_things()):
            with self.subTest(place):
                self.assert_refused(thing)
                self.assert_refused([thing])
                self.assert_refused((thing,))
        self.assert_refused(b"<>\n")
        self.assert_refused(["<>\n"])
        self.assert_refused(["<", ">", "\n"])
        self.assert_refused(("<>",))
        self.assert_refused({"<>\n": 1})
        self.assert_refused((((0, 0), (0, 1)),))

    def test_nothing_to_read(self):
        self.assert_all_refused("", "\n", "\n\n", ".", ".\n", "...\n...\n", " ", " \n", "\t", "\x00")

    def test_without_its_last_line_end(self):
        self.assert_all_refused("<>", "^\nv", "<>\n<>", "...\n.<>")

    def test_line_ends_too_many(self):
        self.assert_all_refused("<>\n\n", "\n<>\n", "<>\n\n<>\n", "^\n\nv\n", "\n\n<>\n")

    def test_other_line_ends(self):
        self.assert_all_refused(
            "<>\r\n", "<>\r", "<>\n\r", "^\r\nv\r\n", "^\rv\r", "^\x0bv\x0b", "^\x0cv\n", "^\u2028v\u2028", "^\x85v\n",
            "<>\\n", "<>\x1e",
        )

    def test_blanks(self):
        self.assert_all_refused(
            " <>\n", "<> \n", "< >\n", "<>\n ", " <>\n <>\n", "<>\t\n", "\ufeff<>\n", "<>\u00a0\n", "<>\u200b\n",
        )

    def test_a_last_row_or_column_without_a_square(self):
        self.assert_all_refused(
            "<>.\n", "<>\n..\n", "^.\nv.\n", "<>\n...\n", ".<>.\n", "<>.\n<>.\n", "...\n.<>\n...\n", "<>.....\n",
        )

    def test_lines_of_different_length(self):
        self.assert_all_refused(
            "<>\n<>.\n", "<>.\n<>\n", "<>\n<><>\n", "<><>\n<>\n", ".\n.<>\n", "\n.<>\n", "<>\n.\n<>\n", "^^\nvv.\n",
            "^\nv.\n", ".^\nv\n", "<>\n.\n",
        )

    def test_signs_that_fit_no_stone(self):
        self.assert_all_refused(
            "<\n", ">\n", "^\n", "v\n", "><\n", "v\n^\n", "<<\n", ">>\n", "^\n^\n", "v\nv\n", "^v\n", "<\n>\n", "<.\n",
            ".>\n", "<.>\n", "^\n.\nv\n", "<^\nv>\n", "<<>\n", "<>>\n", "<><\n", "><>\n", "^\n^\nv\n", "^\nv\nv\n",
            "v\n^\nv\n", "^<\nv>\n", "<>\n>.\n", "<>\n.<\n", "<>\nv<\n", "^>\nv>\n", "<^\n.v\n", "^<>\n>.v\n",
            "..<\n>..\n", "<>^\n..<\n",
        )

    def test_stones_over_one_another(self):
        self.assert_all_refused(
            "<<>\n", "^.\n<>\n", "^\n^\nv\n", "<^>\n.v.\n", ".^\n<>\n", "<^\n.v\n", ".^\n<v\n", "^\n<>\n",
        )

    def test_other_signs(self):
        self.assert_all_refused(
            "##\n", "()\n", "[]\n", "<>#\n", "<>x\n", "^\nV\n", "<>,\n", "<>\n<>;", "\u2039\u203a\n",
            "\uff1c\uff1e\n", "\u2227\nv\n", "<>\x00\n", "\ud800\n", "<>\ud800\n", "\U0001f600\n", "0 0 0 1\n",
            "((0, 0), (0, 1))", "<>\n# a remark\n",
        )

    def test_no_square_beyond_the_last_lines(self):
        self.assert_all_refused(
            "." * 7 + "<>\n", "." * 8 + "<>\n", "." * 8 + "^\n" + "." * 8 + "v\n", "<>" * 5 + "\n",
            ".\n" * 7 + "^\nv\n", "..\n" * 8 + "<>\n", "<>\n" * 9, "^\nv\n" * 5,
        )
        self.assertEqual(read("." * 6 + "<>\n")[0], ((0, 6), (0, 7)))
        self.assertEqual(read(".\n" * 6 + "^\nv\n")[0], ((6, 0), (7, 0)))

    def test_more_than_24_squares(self):
        self.assert_all_refused("<><><><>\n" * 4, "<><><><>\n" * 3 + "<>......\n", "<><><><>\n" * 8, "<><><>\n" * 5)

    def test_long_texts(self):
        for sign in "<>^v.\n #":
            self.assert_refused(sign * 100000)
        self.assert_refused("<>\n" * 100000)
        self.assert_refused("<>\n" + "\n" * 100000)
        self.assert_refused("<>" + "." * 100000 + "\n")

    def test_every_text_of_few_signs(self):
        """Of all texts of up to six signs those are read that are a laying's."""
        good = {drawn(laying, *size(floor)): (floor, laying)
                for rows, columns in ((1, 5), (2, 2), (3, 1), (2, 1)) for floor in floors_in(rows, columns)
                for laying in slow_layings(floor)}
        found = 0
        for length in range(7):
            for signs in itertools.product("<>^v.\n", repeat=length):
                text = "".join(signs)
                if text in good:
                    self.assertEqual(read(text), good[text])
                    found += 1
                else:
                    self.assertRaises(BadText, read, text)
        self.assertEqual(found, len([text for text in good if len(text) <= 6]))

    def test_every_text_that_is_one_sign_off(self):
        """A sign of a laying's text changed, left out or put in: what is read then is written just so."""
        for name in ("frame", "two by two", "three by four", "corner alone", "steps"):
            for laying in slow_layings(FLOORS[name])[:3]:
                text = shown(laying)
                for place in range(len(text) + 1):
                    self.assert_true_or_refused(text[:place] + text[place + 1:], text)
                    for sign in "<>^v.\n #":
                        self.assert_true_or_refused(text[:place] + sign + text[place:], text)
                        self.assert_true_or_refused(text[:place] + sign + text[place + 1:], text)

    def assert_true_or_refused(self, text, good):
        if text == good:
            self.assertEqual(shown(read(text)[1]), good)
            return
        try:
            floor, laying = read(text)
        except BadText:
            return
        self.assertEqual(checked_laying(checked(floor), laying), laying)
        self.assertEqual(drawn(laying, *size(floor)), text)

    def test_what_is_refused_stays_as_it_was(self):
        for thing in (["<>\n"], {"<>\n": ["<>"]}, [["<", ">"]]):
            before = repr(thing)
            self.assert_refused(thing)
            self.assertEqual(repr(thing), before)


class NothingKept(unittest.TestCase):
    def test_equal_things_give_equal_answers(self):
        for name, floor in FLOORS.items():
            for laying in slow_layings(floor)[:5]:
                text = shown(laying)
                before = repr(laying)
                self.assertEqual(shown(moved(laying, 0, 0)), text, name)
                self.assertEqual(read("".join(list(text))), read(text), name)
                self.assertRaises(BadText, read, text + ".")
                self.assertEqual(read(text), (floor, laying), name)
                self.assertEqual(repr(laying), before)


if __name__ == "__main__":
    unittest.main()
