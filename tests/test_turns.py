"""Promises 1, 6, 7 and 8: turns, a laying turned, and roads."""

import copy
import unittest

from tests.helpers import (
    FLOORS, block, floor_of, floors_in, laying_of, moved, slow_distances, slow_layings, slow_plain, slow_turned,
    strange_things,
)
from tilefloor.errors import FloorError, NoTurn, TooMany
from tilefloor.floors import checked_laying
from tilefloor.turns import road, turned, turns

LYING = (((0, 0), (0, 1)), ((1, 0), (1, 1)))
STANDING = (((0, 0), (1, 0)), ((0, 1), (1, 1)))


def gone(laying, squares):
    for square in squares:
        laying = turned(laying, square)
    return laying


class Turns(unittest.TestCase):
    def test_two_by_two(self):
        self.assertEqual(turns(LYING), [(0, 0)])
        self.assertEqual(turns(STANDING), [(0, 0)])

    def test_two_by_two_elsewhere(self):
        for down in range(7):
            for right in range(7):
                for laying in (LYING, STANDING):
                    self.assertEqual(turns(moved(laying, down, right)), [(down, right)])

    def test_none(self):
        for laying in (
            (((0, 0), (0, 1)),),
            (((0, 0), (1, 0)),),
            (((0, 0), (0, 1)), ((0, 2), (0, 3))),
            (((0, 0), (1, 0)), ((2, 0), (3, 0))),
            (((0, 0), (0, 1)), ((1, 1), (1, 2))),
            (((0, 1), (0, 2)), ((1, 0), (1, 1))),
            (((0, 0), (1, 0)), ((1, 1), (2, 1))),
            (((0, 1), (1, 1)), ((1, 0), (2, 0))),
            (((0, 0), (0, 1)), ((2, 0), (2, 1))),
            (((0, 0), (1, 0)), ((0, 2), (1, 2))),
            (((0, 0), (0, 1)), ((0, 2), (1, 2)), ((1, 0), (2, 0)), ((2, 1), (2, 2))),
        ):
            with self.subTest(laying):
                self.assertEqual(turns(laying), [])

    def test_several_that_share_a_stone(self):
        self.assertEqual(turns((((0, 0), (1, 0)), ((0, 1), (1, 1)), ((0, 2), (1, 2)))), [(0, 0), (0, 1)])
        self.assertEqual(turns((((0, 0), (0, 1)), ((1, 0), (1, 1)), ((2, 0), (2, 1)))), [(0, 0), (1, 0)])

    def test_every_laying_within_three_by_four(self):
        for floor in floors_in(3, 4):
            for laying in slow_layings(floor):
                self.assertEqual(turns(laying), sorted(slow_turned(laying)), laying)

    def test_floors_of_many_shapes(self):
        for name, floor in FLOORS.items():
            with self.subTest(name):
                for laying in slow_layings(floor):
                    told = turns(laying)
                    self.assertIsInstance(told, list)
                    self.assertEqual(told, sorted(slow_turned(laying)), laying)

    def test_beyond_the_lines(self):
        for down, right in ((7, 7), (8, 9), (-1, -1), (-3, 2)):
            self.assertEqual(turns(moved(LYING, down, right)), [(down, right)])
            self.assertEqual(turned(moved(LYING, down, right), (down, right)), moved(STANDING, down, right))
        self.assertEqual(turns(()), [])


class Turned(unittest.TestCase):
    def assert_no_turn(self, laying, square):
        for taken in (NoTurn, FloorError, ValueError):
            with self.assertRaises(taken) as told:
                turned(laying, square)
            self.assertIs(type(told.exception), NoTurn)

    def test_two_by_two(self):
        self.assertEqual(turned(LYING, (0, 0)), STANDING)
        self.assertEqual(turned(STANDING, (0, 0)), LYING)

    def test_every_laying_within_three_by_four(self):
        for floor in floors_in(3, 4):
            for laying in slow_layings(floor):
                for square, other in slow_turned(laying).items():
                    told = turned(laying, square)
                    self.assertEqual(told, other)
                    self.assertEqual(checked_laying(floor, told), told)

    def test_floors_of_many_shapes(self):
        for name, floor in FLOORS.items():
            with self.subTest(name):
                for laying in slow_layings(floor)[:60]:
                    for square, other in slow_turned(laying).items():
                        self.assertEqual(turned(laying, square), other)

    def test_twice_at_one_square_is_as_before(self):
        for name, floor in FLOORS.items():
            with self.subTest(name):
                for laying in slow_layings(floor)[:60]:
                    for square in turns(laying):
                        once = turned(laying, square)
                        self.assertNotEqual(once, laying)
                        self.assertIn(square, turns(once))
                        self.assertEqual(turned(once, square), laying)

    def test_no_turn_at_every_other_square(self):
        for floor in (block(2, 2), block(2, 3), block(3, 4), FLOORS["frame"], FLOORS["steps"], FLOORS["two pieces"]):
            for laying in slow_layings(floor):
                for row in range(-2, 10):
                    for column in range(-2, 10):
                        if (row, column) not in slow_turned(laying):
                            self.assert_no_turn(laying, (row, column))

    def test_no_turn_for_things_that_are_no_square(self):
        for laying in (LYING, STANDING, ()):
            for place, thing in enumerate(strange_things()):
                with self.subTest(place):
                    self.assert_no_turn(laying, thing)
                    self.assert_no_turn(laying, (thing,))
                    self.assert_no_turn(laying, (thing, thing, thing))
                    self.assert_no_turn(laying, (thing, (0, 0)))
                    if place != 3:
                        self.assert_no_turn(laying, (0, thing))
                        self.assert_no_turn(laying, (thing, 0))

    def test_no_turn_for_what_looks_like_the_square(self):
        for square in (
            [0, 0], (0,), (0, 0, 0), ((0, 0),), "00", "(0, 0)", {0: 0}, range(2), (False, 0), (0, False),
            (False, False), (0.0, 0), (0, 0.0), ("0", 0), (0, "0"), (0, None), (None, 0), (0, 0j), ((0, 0), (0, 1)),
            LYING, LYING[0], 0,
        ):
            self.assert_no_turn(LYING, square)
            self.assert_no_turn(STANDING, square)

    def test_truths_are_no_ones(self):
        for laying in (moved(LYING, 1, 1), moved(STANDING, 1, 1)):
            self.assertIsInstance(turned(laying, (1, 1)), tuple)
            for square in ((True, 1), (1, True), (True, True), (1.0, 1), (1, 1.0), [1, 1]):
                self.assert_no_turn(laying, square)

    def test_what_is_refused_stays_as_it_was(self):
        for thing in ([0, 0], ([0], [0]), {0: [0]}):
            before = copy.deepcopy(thing)
            self.assert_no_turn(LYING, thing)
            self.assertEqual(repr(thing), repr(before))


class Roads(unittest.TestCase):
    def assert_road(self, floor, one, other, far):
        told = road(floor, one, other)
        if far is None:
            self.assertIsNone(told)
        else:
            self.assertIsInstance(told, list)
            self.assertEqual(len(told), far, (one, other))
            self.assertEqual(gone(one, told), other)

    def assert_roads(self, floor, step=1):
        layings = slow_layings(floor)
        for one in layings[::step]:
            far = slow_distances(layings, one)
            for other in layings[::step]:
                self.assert_road(floor, one, other, far.get(other))

    def test_to_itself(self):
        for name, floor in FLOORS.items():
            layings = slow_layings(floor)
            if len(layings) <= 200:
                with self.subTest(name):
                    for laying in layings[:20]:
                        self.assertEqual(road(floor, laying, laying), [])

    def test_two_by_two(self):
        self.assertEqual(road(block(2, 2), LYING, STANDING), [(0, 0)])
        self.assertEqual(road(block(2, 2), STANDING, LYING), [(0, 0)])

    def test_several_turns(self):
        one = (((0, 0), (0, 1)), ((0, 2), (1, 2)), ((1, 0), (1, 1)))
        other = (((0, 0), (1, 0)), ((0, 1), (0, 2)), ((1, 1), (1, 2)))
        self.assertEqual(road(block(2, 3), one, other), [(0, 0), (0, 1)])
        self.assertEqual(road(block(2, 3), other, one), [(0, 1), (0, 0)])

    def test_one_square_several_times(self):
        # The two layings of this floor that lie farthest apart.
        one = laying_of("<><>", "^<>^", "v<>v", "<><>")
        other = laying_of("^<>^", "v^^v", "^vv^", "v<>v")
        told = road(block(4, 4), one, other)
        self.assertEqual(len(told), 10)
        self.assertEqual(gone(one, told), other)
        self.assertEqual(told.count((1, 1)), 2)

    def test_every_floor_within_three_by_four(self):
        for floor in floors_in(3, 4):
            self.assert_roads(floor)

    def test_floors_of_many_shapes(self):
        for name, floor in FLOORS.items():
            number = len(slow_layings(floor))
            if number <= 200:
                with self.subTest(name):
                    self.assert_roads(floor, 1 + number // 12)

    def test_none_on_floors_that_are_not_plain(self):
        frame = slow_layings(FLOORS["frame"])
        self.assertIsNone(road(FLOORS["frame"], frame[0], frame[1]))
        self.assertIsNone(road(FLOORS["frame"], frame[1], frame[0]))
        four = slow_layings(FLOORS["frame of four"])
        self.assertIsNone(road(FLOORS["frame of four"], four[0], four[1]))

    def test_a_road_on_some_floors_that_are_not_plain(self):
        floor = FLOORS["two pieces"]
        layings = slow_layings(floor)
        self.assertEqual(sorted(road(floor, layings[0], layings[-1])), [(0, 0), (0, 4)])

    def test_a_road_and_none_on_one_floor(self):
        floor = floor_of("###.##", "#.#.##", "###...")
        layings = slow_layings(floor)
        told = [road(floor, layings[0], other) for other in layings]
        self.assertTrue(any(squares is None for squares in told))
        self.assertTrue(any(squares for squares in told))
        self.assert_roads(floor)

    def test_a_road_between_any_two_in_a_plain_floor(self):
        for floor in floors_in(3, 4):
            if slow_plain(floor):
                layings = slow_layings(floor)
                for one in layings:
                    for other in layings:
                        self.assertIsNotNone(road(floor, one, other), (one, other))

    def test_a_road_in_every_larger_plain_floor_that_is_named(self):
        for name, floor in FLOORS.items():
            layings = slow_layings(floor)
            if slow_plain(floor) and len(layings) <= 200:
                for other in layings:
                    self.assertEqual(gone(layings[0], road(floor, layings[0], other)), other, name)

    def test_199_and_200_layings_are_not_too_many(self):
        for name in ("199 layings", "200 layings", "200 layings too"):
            layings = slow_layings(FLOORS[name])
            far = slow_distances(layings, layings[0])
            for other in layings[::9] + layings[-1:]:
                self.assert_road(FLOORS[name], layings[0], other, far.get(other))

    def test_too_many(self):
        beyond = floor_of("######", "######", "######", "##") + block(2, 3, 5, 0)
        for floor in (block(4, 6), block(6, 4), FLOORS["four by six"], FLOORS["202 layings"], beyond, block(5, 6)):
            layings = slow_layings(floor)
            for one, other in ((layings[0], layings[-1]), (layings[0], layings[0]), (layings[1], layings[0])):
                for taken in (TooMany, FloorError, ValueError):
                    with self.assertRaises(taken) as told:
                        road(floor, one, other)
                    self.assertIs(type(told.exception), TooMany)

    def test_somewhat_more_squares_are_not_refused_for_that(self):
        row = block(1, 26)
        only = tuple(zip(row[::2], row[1::2]))
        self.assertEqual(road(row, only, only), [])
        floor = floor_of("##", "##" + "#" * 24)
        layings = slow_layings(floor)
        self.assertEqual(road(floor, layings[0], layings[1]), [(0, 0)])
        self.assertEqual(road((), (), ()), [])


class NothingKept(unittest.TestCase):
    def test_told_lists_that_are_emptied_change_no_later_answer(self):
        for name in ("four by four", "two pieces", "thick frame", "200 layings", "diamond"):
            floor = FLOORS[name]
            layings = slow_layings(floor)
            for laying in layings[:10]:
                for act in (lambda: turns(laying), lambda: road(floor, layings[0], laying)):
                    first = act()
                    if first is not None:
                        before = list(first)
                        first.clear()
                        second = act()
                        self.assertEqual(second, before, name)
                        self.assertIsNot(first, second)
                        second.append((0, 0))
                        self.assertEqual(act(), before, name)

    def test_equal_things_give_equal_answers(self):
        for name in ("four by four", "two pieces", "thick frame"):
            floor = FLOORS[name]
            layings = slow_layings(floor)
            again = copy.deepcopy(floor), copy.deepcopy(layings)
            for place, laying in enumerate(layings):
                self.assertEqual(turns(laying), turns(moved(again[1][place], 0, 0)))
                told = road(floor, layings[0], laying)
                self.assertEqual(road(again[0], moved(again[1][0], 0, 0), moved(again[1][place], 0, 0)), told)

    def test_what_is_handed_in_stays_as_it_was(self):
        floor = FLOORS["three by four"]
        layings = slow_layings(floor)
        before = repr((floor, layings))
        for laying in layings:
            for square in turns(laying):
                turned(laying, square)
            road(floor, laying, layings[0])
        self.assertEqual(repr((floor, layings)), before)


if __name__ == "__main__":
    unittest.main()
