"""Promises 1 and 9: heights of the corners, and the fewest turns, in plain floors alone."""

import copy
import unittest

from tests.helpers import (
    FLOORS, block, floor_of, floors_in, moved, slow_distances, slow_layings, slow_plain, strange_things,
)
from tilefloor.errors import FloorError, NotPlain
from tilefloor.heights import fewest_turns, heights
from tilefloor.turns import road, turned, turns

PLAIN = {name: floor for name, floor in FLOORS.items() if slow_plain(floor)}


def sides(square):
    """The sides of a square as ways with the square left of them: once round it, against the clock."""
    row, column = square
    corners = [(row, column), (row + 1, column), (row + 1, column + 1), (row, column + 1)]
    return list(zip(corners, corners[1:] + corners[:1]))


class Heights(unittest.TestCase):
    def assert_heights(self, floor, laying):
        told = heights(floor, laying)
        self.assertIsInstance(told, list)
        corners = sorted({corner for square in floor for side in sides(square) for corner in side})
        self.assertEqual([corner for corner, height in told], corners)
        self.assertEqual(told[0], (corners[0], 0))
        for pair in told:
            self.assertIs(type(pair), tuple)
            self.assertIs(type(pair[1]), int)
        height = dict(told)
        # The side between the two squares of a stone is walked one way round the one, the other way round the other.
        crossed = {frozenset(side) for one, other in laying for side in sides(one) if side[::-1] in sides(other)}
        self.assertEqual(len(crossed), len(laying))
        for square in floor:
            rise = 1 if sum(square) % 2 == 0 else -1
            for start, end in sides(square):
                if frozenset((start, end)) not in crossed:
                    self.assertEqual(height[end] - height[start], rise, (floor, laying, start, end))

    def test_one_stone(self):
        self.assertEqual(
            heights(block(1, 2), (((0, 0), (0, 1)),)),
            [((0, 0), 0), ((0, 1), -1), ((0, 2), 0), ((1, 0), 1), ((1, 1), 2), ((1, 2), 1)],
        )
        self.assertEqual(
            heights(block(2, 1), (((0, 0), (1, 0)),)),
            [((0, 0), 0), ((0, 1), -1), ((1, 0), 1), ((1, 1), -2), ((2, 0), 0), ((2, 1), -1)],
        )

    def test_one_stone_whose_least_square_is_dark(self):
        self.assertEqual(
            heights(block(1, 2, 7, 2), (((7, 2), (7, 3)),)),
            [((7, 2), 0), ((7, 3), 1), ((7, 4), 0), ((8, 2), -1), ((8, 3), -2), ((8, 4), -1)],
        )

    def test_two_by_two(self):
        around = [
            ((0, 0), 0), ((0, 1), -1), ((0, 2), 0), ((1, 0), 1), ((1, 2), 1), ((2, 0), 0), ((2, 1), -1), ((2, 2), 0),
        ]
        lying = (((0, 0), (0, 1)), ((1, 0), (1, 1)))
        standing = (((0, 0), (1, 0)), ((0, 1), (1, 1)))
        self.assertEqual(heights(block(2, 2), lying), sorted(around + [((1, 1), 2)]))
        self.assertEqual(heights(block(2, 2), standing), sorted(around + [((1, 1), -2)]))

    def test_every_plain_floor_within_three_by_four(self):
        for floor in floors_in(3, 4):
            if slow_plain(floor):
                for laying in slow_layings(floor):
                    self.assert_heights(floor, laying)

    def test_plain_floors_of_many_shapes(self):
        for name, floor in PLAIN.items():
            with self.subTest(name):
                for laying in slow_layings(floor)[:25]:
                    self.assert_heights(floor, laying)

    def test_moved_by_one_line_the_heights_change_their_sign(self):
        floor = block(3, 4)
        for laying in slow_layings(floor):
            for down, right in ((0, 1), (1, 0), (5, 4)):
                told = heights(block(3, 4, down, right), moved(laying, down, right))
                self.assertEqual(told, [((r + down, c + right), -high) for (r, c), high in heights(floor, laying)])

    def test_a_turn_moves_one_corner_by_four(self):
        for laying in slow_layings(block(4, 4)):
            for row, column in turns(laying):
                before = dict(heights(block(4, 4), laying))
                after = dict(heights(block(4, 4), turned(laying, (row, column))))
                apart = {corner: abs(after[corner] - before[corner]) for corner in before}
                self.assertEqual(apart.pop((row + 1, column + 1)), 4)
                self.assertEqual(set(apart.values()), {0})

    def test_more_than_200_layings_are_no_hindrance(self):
        for laying in slow_layings(block(4, 6))[::40]:
            self.assert_heights(block(4, 6), laying)

    def test_somewhat_more_squares_are_not_refused(self):
        for floor in (block(5, 6), block(2, 13), block(2, 3, 8, 8), block(2, 3, -1, -2)):
            for laying in slow_layings(floor)[:3]:
                self.assert_heights(floor, laying)
        self.assertEqual(heights((), ()), [])
        self.assertEqual(fewest_turns((), (), ()), 0)


class FewestTurns(unittest.TestCase):
    def assert_fewest(self, floor, step=1):
        layings = slow_layings(floor)
        for one in layings[::step]:
            far = slow_distances(layings, one)
            for other in layings[::step]:
                self.assertEqual(fewest_turns(floor, one, other), far[other], (one, other))

    def test_two_by_two(self):
        lying = (((0, 0), (0, 1)), ((1, 0), (1, 1)))
        standing = (((0, 0), (1, 0)), ((0, 1), (1, 1)))
        self.assertEqual(fewest_turns(block(2, 2), lying, standing), 1)
        self.assertEqual(fewest_turns(block(2, 2), standing, lying), 1)
        self.assertEqual(fewest_turns(block(2, 2), lying, lying), 0)

    def test_as_long_as_the_road(self):
        for floor in floors_in(3, 4):
            if slow_plain(floor):
                layings = slow_layings(floor)
                for one in layings:
                    for other in layings:
                        told = fewest_turns(floor, one, other)
                        self.assertIs(type(told), int)
                        self.assertEqual(told, len(road(floor, one, other)))

    def test_plain_floors_of_many_shapes(self):
        for name, floor in PLAIN.items():
            with self.subTest(name):
                self.assert_fewest(floor, 1 + len(slow_layings(floor)) // 8)

    def test_more_than_200_layings_are_no_hindrance(self):
        self.assert_fewest(block(4, 6), 70)
        self.assert_fewest(block(6, 4, 2, 3), 70)
        self.assert_fewest(FLOORS["202 layings"], 50)

    def test_a_large_floor(self):
        floor = block(8, 8)
        lying = tuple(((row, column), (row, column + 1)) for row in range(8) for column in range(0, 8, 2))
        standing = tuple(((row, column), (row + 1, column)) for row in range(0, 8, 2) for column in range(8))
        # The sixteen blocks of two by two are turned one by one.
        self.assertEqual(fewest_turns(floor, lying, standing), 16)
        self.assertEqual(fewest_turns(floor, standing, lying), 16)


class NotPlainFloors(unittest.TestCase):
    def assert_refused(self, floor, one, other):
        for taken in (NotPlain, FloorError, ValueError):
            for act in (heights, fewest_turns):
                with self.assertRaises(taken) as told:
                    act(floor, one) if act is heights else act(floor, one, other)
                self.assertIs(type(told.exception), NotPlain)

    def test_a_hole_two_pieces_and_a_corner_alone(self):
        for name in (
            "frame", "frame of four", "two holes", "thick frame", "two pieces", "three pieces", "corner alone",
            "pieces in the four corners",
        ):
            layings = slow_layings(FLOORS[name])
            with self.subTest(name):
                self.assertFalse(slow_plain(FLOORS[name]))
                for laying in layings[:5]:
                    self.assert_refused(FLOORS[name], laying, layings[-1])
                    self.assert_refused(FLOORS[name], laying, laying)

    def test_a_corner_alone_in_one_piece(self):
        floor = floor_of("###.", "#.##", "##..", ".#..")
        for laying in slow_layings(floor) or [()]:
            self.assert_refused(floor, laying, laying)

    def test_every_floor_within_three_by_four(self):
        for floor in floors_in(3, 4):
            if not slow_plain(floor):
                for laying in slow_layings(floor):
                    self.assertRaises(NotPlain, heights, floor, laying)
                    self.assertRaises(NotPlain, fewest_turns, floor, laying, laying)

    def test_things_that_are_no_floor(self):
        laying = (((0, 0), (0, 1)),)
        for place, thing in enumerate(strange_things()):
            with self.subTest(place):
                self.assert_refused(thing, laying, laying)
                self.assert_refused((thing,), laying, laying)
                self.assert_refused(((0, 0), thing), laying, laying)
        for floor in (((0, 1), (0, 0)), ((0, 0), (0, 1), (0, 1)), ((0, 0), (0, True)), [[0, 0], [0, 1]]):
            before = repr(floor)
            self.assert_refused(floor, laying, laying)
            self.assertEqual(repr(floor), before)


class NothingKept(unittest.TestCase):
    def test_a_told_list_that_is_emptied_changes_no_later_answer(self):
        for name, floor in PLAIN.items():
            for laying in slow_layings(floor)[:5]:
                first = heights(floor, laying)
                before = list(first)
                first.clear()
                second = heights(floor, laying)
                self.assertEqual(second, before, name)
                self.assertIsNot(first, second)
                second.reverse()
                self.assertEqual(heights(floor, laying), before, name)
                self.assertEqual(fewest_turns(floor, laying, laying), 0)

    def test_equal_things_give_equal_answers_and_stay_as_they_were(self):
        for name, floor in PLAIN.items():
            layings = slow_layings(floor)[:5]
            before = repr((floor, layings))
            for laying in layings:
                again = moved(laying, 0, 0)
                self.assertEqual(heights(copy.deepcopy(floor), again), heights(floor, laying), name)
                self.assertEqual(fewest_turns(floor, again, layings[0]), fewest_turns(floor, laying, layings[0]), name)
            self.assertEqual(repr((floor, layings)), before)


if __name__ == "__main__":
    unittest.main()
