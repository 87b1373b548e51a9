"""Promises 1, 4, 5 and 10: a laying or a crowd, the layings and their number, and the fixed stones."""

import unittest

from tests.helpers import FLOORS, block, floor_of, floors_in, has_crowd, is_crowd, slow_fixed, slow_layings
from tilefloor.errors import FloorError, TooMany
from tilefloor.floors import checked_laying
from tilefloor.laying import all_layings, count, fixed, laid


class LayingOrCrowd(unittest.TestCase):
    def assert_told_rightly(self, floor):
        told = laid(floor)
        self.assertIsInstance(told, tuple)
        self.assertEqual(len(told), 2)
        if told[0] == "laid":
            self.assertEqual(checked_laying(floor, told[1]), told[1])
            self.assertIsInstance(told[1], tuple)
        else:
            self.assertEqual(told[0], "crowd")
            self.assertIsInstance(told[1], list)
            self.assertEqual(told[1], sorted(told[1]))
            self.assertTrue(set(told[1]) <= set(floor), told)
            self.assertTrue(is_crowd(floor, told[1]), told)
        return told[0]

    def test_every_floor_within_three_by_four(self):
        for floor in floors_in(3, 4):
            self.assertEqual(self.assert_told_rightly(floor) == "laid", slow_layings(floor) != [], floor)

    def test_never_both(self):
        for floor in floors_in(3, 3):
            self.assertEqual(self.assert_told_rightly(floor) == "crowd", has_crowd(floor), floor)

    def test_floors_of_many_shapes(self):
        for name, floor in FLOORS.items():
            with self.subTest(name):
                self.assertEqual(self.assert_told_rightly(floor) == "laid", slow_layings(floor) != [])

    def test_many_floors_within_four_by_six(self):
        whole = block(4, 6, 4, 2)
        for bits in range(1, 1 << 24, 9973):
            floor = tuple(square for place, square in enumerate(whole) if bits >> place & 1)
            self.assertEqual(self.assert_told_rightly(floor) == "laid", count(floor) > 0, floor)

    def test_dense_floors_within_five_by_five(self):
        whole = block(5, 5)
        for one in whole:
            for other in whole:
                for third in whole:
                    floor = tuple(square for square in whole if square not in (one, other, third))
                    if len(floor) <= 24:
                        self.assertEqual(self.assert_told_rightly(floor) == "laid", count(floor) > 0, floor)

    def test_one_square(self):
        for square in block(8, 8):
            self.assertEqual(laid((square,)), ("crowd", [square]))

    def test_one_stone(self):
        self.assertEqual(laid(((7, 6), (7, 7))), ("laid", (((7, 6), (7, 7)),)))
        self.assertEqual(laid(((6, 0), (7, 0))), ("laid", (((6, 0), (7, 0)),)))

    def test_squares_that_meet_by_a_corner_alone(self):
        self.assertEqual(laid(((0, 0), (1, 1)))[0], "crowd")
        self.assertEqual(laid(((0, 7), (1, 0)))[0], "crowd")

    def test_only_light_or_only_dark_ones_can_crowd(self):
        self.assertEqual(laid(floor_of("###"))[1], [(0, 0), (0, 2)])
        self.assertEqual(laid(floor_of(".###"))[1], [(0, 1), (0, 3)])

    def test_as_many_light_as_dark_and_yet_a_crowd(self):
        for floor in (FLOORS["two tees"], FLOORS["bridge of odd ends"]):
            light = [square for square in floor if sum(square) % 2 == 0]
            self.assertEqual(2 * len(light), len(floor))
            self.assertEqual(self.assert_told_rightly(floor), "crowd")

    def test_a_long_floor_that_is_paired_along_its_whole_length(self):
        for floor in (FLOORS["winding"], FLOORS["comb"], FLOORS["diamond"], block(1, 8), block(8, 1)):
            self.assert_told_rightly(floor)


class Counting(unittest.TestCase):
    def test_blocks(self):
        for rows, columns, number in (
            (1, 1, 0), (1, 2, 1), (1, 7, 0), (1, 8, 1), (8, 1, 1), (2, 2, 2), (2, 3, 3), (2, 4, 5), (2, 5, 8),
            (2, 6, 13), (2, 7, 21), (2, 8, 34), (8, 2, 34), (3, 3, 0), (3, 4, 11), (4, 3, 11), (3, 6, 41), (3, 8, 153),
            (8, 3, 153), (4, 4, 36), (4, 5, 95), (5, 4, 95), (4, 6, 281), (6, 4, 281), (3, 5, 0), (3, 7, 0),
        ):
            for down, right in ((0, 0), (8 - rows, 8 - columns)):
                with self.subTest(rows=rows, columns=columns, down=down):
                    self.assertEqual(count(block(rows, columns, down, right)), number)

    def test_named_floors(self):
        for name, number in (
            ("diamond", 64), ("frame", 2), ("frame of four", 2), ("two pieces", 4), ("three pieces", 5), ("tee", 0),
            ("pieces in the four corners", 1), ("single squares", 0), ("without two opposite corners", 0),
            ("corner alone", 1), ("199 layings", 199), ("200 layings", 200), ("200 layings too", 200),
            ("202 layings", 202), ("winding", 1), ("bridge of odd ends", 0),
        ):
            with self.subTest(name):
                self.assertEqual(count(FLOORS[name]), number)

    def test_every_floor_within_three_by_four(self):
        for floor in floors_in(3, 4):
            self.assertEqual(count(floor), len(slow_layings(floor)), floor)

    def test_floors_of_many_shapes(self):
        for name, floor in FLOORS.items():
            with self.subTest(name):
                self.assertEqual(count(floor), len(slow_layings(floor)))
                self.assertIs(type(count(floor)), int)

    def test_pieces_multiply(self):
        self.assertEqual(count(block(4, 4) + block(2, 4, 5, 0)), 36 * 5)
        self.assertEqual(count(block(2, 8) + block(1, 8, 3, 0)), 34)

    def test_somewhat_more_squares_are_not_refused(self):
        self.assertEqual(count(block(5, 6)), 1183)
        self.assertEqual(count(block(8, 8)), 12988816)
        self.assertEqual(count(block(2, 13)), 377)


class AllLayings(unittest.TestCase):
    def assert_all(self, floor):
        told = all_layings(floor)
        self.assertIsInstance(told, list)
        self.assertEqual(told, slow_layings(floor))
        return told

    def test_two_by_two(self):
        self.assertEqual(
            all_layings(((0, 0), (0, 1), (1, 0), (1, 1))),
            [(((0, 0), (0, 1)), ((1, 0), (1, 1))), (((0, 0), (1, 0)), ((0, 1), (1, 1)))],
        )

    def test_every_floor_within_three_by_four(self):
        for floor in floors_in(3, 4):
            self.assert_all(floor)

    def test_floors_of_many_shapes(self):
        for name, floor in FLOORS.items():
            with self.subTest(name):
                if len(slow_layings(floor)) > 200:
                    self.assertRaises(TooMany, all_layings, floor)
                else:
                    for laying in self.assert_all(floor):
                        self.assertEqual(checked_laying(floor, laying), laying)

    def test_199_and_200_are_told(self):
        self.assertEqual(len(self.assert_all(FLOORS["199 layings"])), 199)
        self.assertEqual(len(self.assert_all(FLOORS["200 layings"])), 200)
        self.assertEqual(len(self.assert_all(FLOORS["200 layings too"])), 200)

    def test_more_than_200_are_refused(self):
        for floor in (FLOORS["202 layings"], FLOORS["four by six"], block(6, 4)):
            for taken in (TooMany, FloorError, ValueError):
                with self.assertRaises(taken) as told:
                    all_layings(floor)
                self.assertIs(type(told.exception), TooMany)

    def test_201_are_refused(self):
        # No floor of 24 squares with just 201 layings is known; this one has 26.
        floor = floor_of("######", "######", "######", "##") + block(2, 3, 5, 0)
        self.assertEqual(count(floor), 67 * 3)
        self.assertRaises(TooMany, all_layings, floor)

    def test_a_floor_without_layings(self):
        for floor in (block(1, 1), floor_of("###", ".#."), block(3, 3), FLOORS["without two opposite corners"]):
            self.assertEqual(all_layings(floor), [])

    def test_somewhat_more_squares_are_not_refused_for_that(self):
        row = block(1, 26)
        self.assertEqual(all_layings(row), [tuple(zip(row[::2], row[1::2]))])
        self.assertRaises(TooMany, all_layings, block(5, 6))


class Fixed(unittest.TestCase):
    def test_every_floor_within_three_by_four(self):
        for floor in floors_in(3, 4):
            self.assertEqual(fixed(floor), slow_fixed(floor), floor)

    def test_floors_of_many_shapes(self):
        for name, floor in FLOORS.items():
            with self.subTest(name):
                self.assertIsInstance(fixed(floor), list)
                self.assertEqual(fixed(floor), slow_fixed(floor))

    def test_one_laying_is_fixed_whole(self):
        for floor in (block(1, 2), block(8, 1), FLOORS["winding"], FLOORS["pieces in the four corners"]):
            self.assertEqual(fixed(floor), list(all_layings(floor)[0]))

    def test_a_tail_is_fixed_and_a_block_is_not(self):
        self.assertEqual(fixed(floor_of("##", "####")), [((1, 2), (1, 3))])
        self.assertEqual(fixed(floor_of("..##", "####")), [((1, 0), (1, 1))])

    def test_none_is_fixed(self):
        for floor in (block(2, 2), block(2, 3), block(4, 4), FLOORS["frame"], FLOORS["diamond"]):
            self.assertEqual(fixed(floor), [])

    def test_fixed_stones_between_blocks(self):
        floor = floor_of("##......", "########", "......##")
        self.assertEqual(fixed(floor), slow_fixed(floor))
        self.assertEqual(fixed(floor), [((1, 2), (1, 3)), ((1, 4), (1, 5))])

    def test_a_floor_without_layings_has_none(self):
        for floor in (block(1, 1), block(3, 3), floor_of("##.#"), floor_of("###.##"), FLOORS["tee"]):
            self.assertEqual(fixed(floor), [])

    def test_more_than_200_layings_are_no_hindrance(self):
        self.assertEqual(fixed(FLOORS["four by six"]), [])
        self.assertEqual(fixed(FLOORS["202 layings"]), slow_fixed(FLOORS["202 layings"]))
        self.assertEqual(fixed(block(5, 6) + ((7, 0), (7, 1))), [((7, 0), (7, 1))])


class NothingKept(unittest.TestCase):
    def told_lists(self, floor):
        lists = [fixed(floor)]
        if count(floor) <= 200:
            lists.append(all_layings(floor))
        if laid(floor)[0] == "crowd":
            lists.append(laid(floor)[1])
        return lists

    def test_a_told_list_that_is_changed_changes_no_later_answer(self):
        for name, floor in FLOORS.items():
            with self.subTest(name):
                first = self.told_lists(floor)
                before = [list(told) for told in first]
                for told in first:
                    told.append("more")
                    told.reverse()
                second = self.told_lists(floor)
                self.assertEqual(second, before)
                for one, other in zip(first, second):
                    self.assertIsNot(one, other)
                    other.clear()
                self.assertEqual(self.told_lists(floor), before)

    def test_equal_floors_give_equal_answers(self):
        for name, floor in FLOORS.items():
            with self.subTest(name):
                again = tuple([(int(str(row)), int(str(column))) for row, column in floor])
                self.assertEqual(laid(floor), laid(again))
                self.assertEqual(self.told_lists(floor), self.told_lists(again))

    def test_other_calls_in_between_change_nothing(self):
        before = {name: (laid(floor), count(floor), fixed(floor)) for name, floor in FLOORS.items()}
        for name, floor in reversed(FLOORS.items()):
            self.assertEqual((laid(floor), count(floor), fixed(floor)), before[name], name)

    def test_the_floor_stays_as_it_was(self):
        for name, floor in FLOORS.items():
            before = repr(floor)
            laid(floor)
            self.told_lists(floor)
            self.assertEqual(repr(floor), before, name)


if __name__ == "__main__":
    unittest.main()
