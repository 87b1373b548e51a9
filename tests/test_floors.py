"""Promises 1, 2, 3 and 8: what is a floor and a laying, what is refused, and which floors are plain."""

import copy
import unittest

from tests.helpers import FLOORS, block, floor_of, floors_in, slow_layings, slow_plain, strange_things
from tilefloor.errors import BadFloor, BadLaying, FloorError
from tilefloor.floors import checked, checked_laying, is_plain


class Refusing(unittest.TestCase):
    def assert_refused(self, refusal, act, *things):
        for taken in (refusal, FloorError, ValueError):
            with self.assertRaises(taken) as told:
                act(*things)
            self.assertIs(type(told.exception), refusal)


class GoodFloors(unittest.TestCase):
    def test_floors_of_many_shapes(self):
        for name, floor in FLOORS.items():
            with self.subTest(name):
                self.assertEqual(checked(floor), floor)
                self.assertIsInstance(checked(floor), tuple)

    def test_each_square_alone(self):
        for square in block(8, 8):
            self.assertEqual(checked((square,)), (square,))

    def test_24_squares(self):
        for floor in (block(3, 8), block(8, 3, 0, 5), block(8, 8)[-24:], block(8, 8)[::2][:24]):
            self.assertEqual(len(floor), 24)
            self.assertEqual(checked(floor), floor)

    def test_every_small_floor(self):
        for floor in floors_in(2, 4):
            self.assertEqual(checked(floor), floor)


class BadFloors(Refusing):
    def test_another_kind_than_a_tuple(self):
        for place, thing in enumerate(strange_things()):
            with self.subTest(place):
                self.assert_refused(BadFloor, checked, thing)

    def test_a_list_of_good_squares(self):
        self.assert_refused(BadFloor, checked, [(0, 0), (0, 1)])

    def test_no_squares(self):
        self.assert_refused(BadFloor, checked, ())

    def test_25_squares_and_more(self):
        for size in (25, 26, 48, 64):
            self.assert_refused(BadFloor, checked, block(8, 8)[:size])

    def test_many_things(self):
        self.assert_refused(BadFloor, checked, ((0, 0),) * 100000)

    def test_not_rising(self):
        for floor in (
            ((0, 1), (0, 0)),
            ((1, 0), (0, 1)),
            ((0, 0), (0, 2), (0, 1)),
            ((0, 7), (1, 0), (0, 0)),
            block(3, 8)[::-1],
            block(3, 8)[:22] + ((2, 7), (2, 6)),
        ):
            with self.subTest(floor):
                self.assert_refused(BadFloor, checked, floor)

    def test_a_square_twice(self):
        for floor in (
            ((0, 0), (0, 0)),
            ((0, 0), (0, 1), (0, 1), (0, 2)),
            ((0, 0), (0, 1), (0, 0)),
            block(2, 8) + ((1, 7),),
        ):
            with self.subTest(floor):
                self.assert_refused(BadFloor, checked, floor)

    def test_squares_that_are_none(self):
        for place, square in enumerate((
            [0, 1], (), (0,), (0, 1, 2), ((0, 1),), ((0, 0), (0, 1)), "01", {0: 0, 1: 1}, range(2),
            (-1, 0), (0, -1), (8, 0), (0, 8), (8, 8), (-8, -8), (0, 10 ** 5000), (-10 ** 5000, 0),
            (True, 1), (1, True), (False, 0), (0, False), (True, True), (False, False),
            ("0", 1), (0, "1"), ("0", "1"), (0, 1.0), (0.0, 1), (0, None), (None, 0), (0, (1,)), ([0], 1),
        )):
            with self.subTest(place):
                self.assert_refused(BadFloor, checked, (square,))
                self.assert_refused(BadFloor, checked, ((0, 0), square))
                self.assert_refused(BadFloor, checked, (square, (7, 7)))

    def test_truths_that_would_rise(self):
        self.assert_refused(BadFloor, checked, ((0, 0), (0, True)))
        self.assert_refused(BadFloor, checked, ((False, 0), (0, 1)))

    def test_strange_things_as_squares_and_as_lines(self):
        for place, thing in enumerate(strange_things()):
            with self.subTest(place):
                self.assert_refused(BadFloor, checked, (thing,))
                self.assert_refused(BadFloor, checked, ((0, 0), thing))
                self.assert_refused(BadFloor, checked, (thing, thing))
                if not isinstance(thing, int) or not 0 <= thing <= 7 or isinstance(thing, bool):
                    self.assert_refused(BadFloor, checked, ((0, thing),))
                    self.assert_refused(BadFloor, checked, ((thing, 0), (7, 7)))

    def test_what_is_refused_stays_as_it_was(self):
        for thing in ([(0, 1), (0, 0)], ([0, 1], [0, 0]), {(0, 1): [1], (0, 0): [0]}, [[[]]]):
            before = copy.deepcopy(thing)
            self.assert_refused(BadFloor, checked, thing)
            self.assertEqual(thing, before)
            self.assertEqual(repr(thing), repr(before))


class GoodLayings(unittest.TestCase):
    def test_every_laying_of_small_floors(self):
        for floor in floors_in(3, 3):
            for laying in slow_layings(floor):
                self.assertEqual(checked_laying(floor, laying), laying)
                self.assertIsInstance(checked_laying(floor, laying), tuple)

    def test_layings_of_many_floors(self):
        for name, floor in FLOORS.items():
            with self.subTest(name):
                for laying in slow_layings(floor)[:20]:
                    self.assertEqual(checked_laying(floor, laying), laying)

    def test_stones_at_the_last_lines(self):
        for laying in ((((7, 6), (7, 7)),), (((6, 7), (7, 7)),), (((0, 0), (1, 0)),), (((0, 6), (0, 7)),)):
            self.assertEqual(checked_laying(laying[0], laying), laying)


class BadLayings(Refusing):
    floor = block(2, 4)
    good = (((0, 0), (0, 1)), ((0, 2), (1, 2)), ((0, 3), (1, 3)), ((1, 0), (1, 1)))

    def assert_none(self, laying, floor=floor):
        self.assert_refused(BadLaying, checked_laying, floor, laying)

    def test_the_good_one_is_good(self):
        self.assertEqual(checked_laying(self.floor, self.good), self.good)

    def test_another_kind_of_thing(self):
        for place, thing in enumerate(strange_things()):
            with self.subTest(place):
                self.assert_none(thing)
        self.assert_none(list(self.good))
        self.assert_none(dict(self.good))

    def test_strange_things_in_it(self):
        for place, thing in enumerate(strange_things()):
            with self.subTest(place):
                self.assert_none((thing,))
                self.assert_none(self.good[:3] + (thing,))
                self.assert_none((thing,) + self.good)
                self.assert_none(self.good[:3] + (((1, 0), thing),))
                self.assert_none(((thing, (0, 1)),) + self.good[1:])
                if place not in (3, 4):
                    self.assert_none(self.good[:3] + (((1, 0), (1, thing)),))

    def test_a_stone_less(self):
        for place in range(len(self.good)):
            self.assert_none(self.good[:place] + self.good[place + 1:])
        self.assert_none(())
        self.assert_none((), block(1, 1))

    def test_a_stone_twice(self):
        for place in range(len(self.good)):
            self.assert_none(self.good[:place + 1] + self.good[place:])
        self.assert_none(self.good[:1] * 4)

    def test_a_square_covered_twice(self):
        self.assert_none((((0, 0), (0, 1)), ((0, 1), (0, 2))), floor_of("###"))
        self.assert_none((((0, 0), (0, 1)), ((0, 0), (1, 0)), ((0, 1), (1, 1)), ((1, 0), (1, 1))), block(2, 2))
        self.assert_none((((0, 0), (0, 1)), ((0, 1), (0, 2)), ((0, 2), (0, 3))), block(1, 4))

    def test_a_stone_turned_about(self):
        for place, stone in enumerate(self.good):
            self.assert_none(self.good[:place] + (stone[::-1],) + self.good[place + 1:])
        self.assert_none((((0, 1), (0, 0)),), block(1, 2))
        self.assert_none((((1, 0), (0, 0)),), block(2, 1))

    def test_a_stone_of_no_neighbours(self):
        self.assert_none((((0, 0), (1, 1)), ((0, 1), (1, 0))), block(2, 2))
        self.assert_none((((0, 0), (0, 2)), ((0, 1), (0, 3))), block(1, 4))
        self.assert_none((((0, 0), (2, 0)), ((1, 0), (3, 0))), block(4, 1))
        self.assert_none((((0, 0), (0, 7)),), ((0, 0), (0, 7)))
        self.assert_none((((0, 7), (1, 0)),), ((0, 7), (1, 0)))
        self.assert_none((((0, 0), (0, 0)),), block(1, 1))

    def test_out_of_order(self):
        self.assert_none(self.good[::-1])
        self.assert_none(self.good[:2] + (self.good[3], self.good[2]))
        self.assert_none((self.good[1], self.good[0]) + self.good[2:])

    def test_beyond_the_floor(self):
        self.assert_none(self.good + (((2, 0), (2, 1)),))
        self.assert_none(self.good[:3] + (((1, 0), (2, 0)),))
        self.assert_none(self.good, block(2, 4)[:7])
        self.assert_none((((0, 0), (0, 1)),), block(1, 1))
        self.assert_none((((0, 7), (0, 8)),), ((0, 7),))
        self.assert_none((((-1, 0), (0, 0)),), ((0, 0),))
        self.assert_none((((0, 0), (0, 1)),), block(1, 2, 7, 6))

    def test_another_floor_with_as_many_squares(self):
        self.assert_none(self.good, block(4, 2))
        self.assert_none(self.good, block(2, 4, 1, 0))
        self.assert_none((((0, 0), (0, 1)), ((1, 0), (1, 1))), floor_of("###", "#"))

    def test_a_square_left_bare(self):
        self.assert_none((((0, 0), (0, 1)),), floor_of("###"))
        self.assert_none((((0, 0), (0, 1)),), floor_of("##.##"))

    def test_stones_and_squares_of_wrong_form(self):
        floor = block(1, 2)
        for stone in (
            [(0, 0), (0, 1)], ((0, 0),), ((0, 0), (0, 1), (0, 2)), (0, 0, 0, 1), ([0, 0], [0, 1]), (0, 1), "01", (),
            ((0, 0), [0, 1]), ((0, 0), (0, 1, 0)), ((0,), (0, 1)), ((0, 0), (0, True)), ((False, False), (False, True)),
            ((0, False), (0, 1)), ((0, 0), (0, 1.0)), ((0.0, 0), (0, 1)), ((0, 0), (0, "1")), ((0, 0), ("0", 1)),
            ((0, 0), (0, None)), ((0, 0), None), {(0, 0): 1, (0, 1): 1},
        ):
            with self.subTest(stone):
                self.assert_none((stone,), floor)
        self.assert_none(((0, 0), (0, 1)), floor)
        self.assert_none(floor, floor)

    def test_a_floor_without_layings_has_none(self):
        for floor in (block(1, 1), floor_of("###", ".#."), block(3, 3)):
            for laying in ((), (((0, 0), (0, 1)),), (((0, 0), (0, 1)), ((0, 2), (1, 2)))):
                self.assert_none(laying, floor)

    def test_every_other_choice_of_stones(self):
        floor = block(2, 3)
        stones = [(one, other) for one in floor for other in floor if one != other]
        good = slow_layings(floor)
        for first in stones:
            for second in stones:
                for third in stones:
                    laying = (first, second, third)
                    if laying in good:
                        self.assertEqual(checked_laying(floor, laying), laying)
                    else:
                        self.assertRaises(BadLaying, checked_laying, floor, laying)

    def test_what_is_refused_stays_as_it_was(self):
        for thing in (list(self.good[::-1]), ([(0, 1), (0, 0)],), {"a": [1]}):
            before = copy.deepcopy(thing)
            self.assert_none(thing)
            self.assertEqual(repr(thing), repr(before))


class Plain(unittest.TestCase):
    def assert_plain(self, answer, *rows):
        """The same answer wherever on the lines 0 to 7 the picture lies, and turned over."""
        wide = max(len(row) for row in rows)
        for picture in (rows, rows[::-1], [row.ljust(wide, ".")[::-1] for row in rows]):
            for down in (0, 1, 8 - len(rows)):
                for right in (0, 1, 8 - wide):
                    with self.subTest(picture=picture, down=down, right=right):
                        self.assertIs(is_plain(floor_of(*picture, down=down, right=right)), answer)

    def test_plain_ones(self):
        self.assert_plain(True, "#")
        self.assert_plain(True, "##")
        self.assert_plain(True, "####", "####")
        self.assert_plain(True, "######", "######", "######", "######")
        self.assert_plain(True, "###", ".#.")
        self.assert_plain(True, "##.", ".##", "..#")
        self.assert_plain(True, "###", "#..", "###")

    def test_in_pieces(self):
        self.assert_plain(False, "#.#")
        self.assert_plain(False, "##..##", "##..##")
        self.assert_plain(False, "#", ".", "#")
        self.assert_plain(False, "######", "......", "######")

    def test_a_square_shut_in(self):
        self.assert_plain(False, "###", "#.#", "###")
        self.assert_plain(False, "####", "#..#", "####")
        self.assert_plain(False, "#####", "#.#.#", "#####")
        self.assert_plain(False, "####", "#.##", "##.#", "####")
        self.assert_plain(False, "#####", "#####", "##.##", "#####", "####.")

    def test_a_square_that_reaches_the_outside_by_a_corner_alone(self):
        self.assert_plain(False, ".##", "#.#", "###")
        self.assert_plain(False, ".###", "#.##", "####")
        self.assert_plain(False, "####", "#.##", "##.#", "###.")

    def test_a_square_that_reaches_the_outside_by_a_side(self):
        self.assert_plain(True, "#.#", "#.#", "###")
        self.assert_plain(True, "#.##", "#..#", "####")
        self.assert_plain(True, "####", "#..#", "##.#")

    def test_squares_that_meet_by_a_corner_alone(self):
        self.assert_plain(False, "#.", ".#")
        self.assert_plain(False, "##..", "..##")
        self.assert_plain(False, "###.", "#.#.", "##.#", ".###")
        self.assert_plain(False, "####", "#..#", "##.#", "..##", ".##.")

    def test_corners_that_meet_with_one_beside(self):
        self.assert_plain(True, "##", ".#")
        self.assert_plain(True, "##", "##")

    def test_a_corner_alone_in_one_piece(self):
        self.assert_plain(False, "###.", "#.##", "##..", ".#..")
        self.assert_plain(False, "#####", "#...#", "##..#", ".#.##", "..#..", "..###")
        self.assert_plain(False, "##.", "#.#", "###")

    def test_a_piece_within_a_frame(self):
        self.assert_plain(False, "#####", "#...#", "#.#.#", "#...#", "#####")

    def test_every_floor_within_three_by_four(self):
        for floor in floors_in(3, 4):
            self.assertIs(is_plain(floor), slow_plain(floor), floor)

    def test_every_large_floor_within_four_by_five(self):
        whole = block(4, 5)
        for bits in range(0, 1 << 20, 37):
            floor = tuple(square for place, square in enumerate(whole) if bits >> place & 1)
            if floor:
                self.assertIs(is_plain(floor), slow_plain(floor), floor)

    def test_floors_of_many_shapes(self):
        for name, floor in FLOORS.items():
            with self.subTest(name):
                self.assertIs(is_plain(floor), slow_plain(floor))

    def test_somewhat_more_squares_are_not_refused(self):
        self.assertIs(is_plain(block(5, 6)), True)
        self.assertIs(is_plain(block(2, 13)), True)

    def test_no_squares_are_not_refused(self):
        self.assertIs(is_plain(()), True)


if __name__ == "__main__":
    unittest.main()
