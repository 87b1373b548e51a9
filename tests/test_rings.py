"""Promises 1 and 11: the rings of two layings, and a laying laid the other way along one."""

import copy
import itertools
import unittest

from tests.helpers import FLOORS, block, floors_in, moved, slow_layings
from tilefloor.floors import checked_laying
from tilefloor.rings import laid_otherwise, rings
from tilefloor.turns import turned, turns

LYING = (((0, 0), (0, 1)), ((1, 0), (1, 1)))
STANDING = (((0, 0), (1, 0)), ((0, 1), (1, 1)))


def slow_groups(one, other):
    """The squares of each ring of more than two: groups that stones of either laying join."""
    groups = [set(stone) for stone in one]
    for stone in other:
        joined = [group for group in groups if group & set(stone)]
        groups = [group for group in groups if not group & set(stone)] + [set().union(*joined)]
    return sorted(sorted(group) for group in groups if len(group) > 2)


def pairs(layings, most):
    return list(itertools.islice(itertools.product(layings, reversed(layings)), most))


class Rings(unittest.TestCase):
    def assert_rings(self, one, other):
        told = rings(one, other)
        self.assertIs(type(told), list)
        self.assertEqual([sorted(ring) for ring in told], slow_groups(one, other))
        for ring in told:
            self.assertIs(type(ring), list)
            self.assertEqual(ring[0], min(ring))
            self.assertEqual(len(ring) % 2, 0)
            for place, square in enumerate(ring):
                laying = one if place % 2 == 0 else other
                further = ring[(place + 1) % len(ring)]
                self.assertIn(tuple(sorted((square, further))), laying)
        return told

    def test_two_by_two(self):
        self.assertEqual(rings(LYING, STANDING), [[(0, 0), (0, 1), (1, 1), (1, 0)]])
        self.assertEqual(rings(STANDING, LYING), [[(0, 0), (1, 0), (1, 1), (0, 1)]])

    def test_a_ring_round_a_hole(self):
        one, other = slow_layings(FLOORS["frame"])
        around = [(0, 0), (0, 1), (0, 2), (1, 2), (2, 2), (2, 1), (2, 0), (1, 0)]
        self.assertEqual(rings(one, other), [around])
        self.assertEqual(rings(other, one), [around[:1] + around[:0:-1]])

    def test_two_rings_in_order_and_stones_in_both(self):
        one = LYING[:1] + (((0, 3), (0, 4)),) + LYING[1:] + (((1, 3), (1, 4)), ((2, 0), (2, 1)))
        other = tuple(sorted(STANDING + moved(STANDING, 0, 3) + (((2, 0), (2, 1)),)))
        self.assertEqual(
            rings(one, other), [[(0, 0), (0, 1), (1, 1), (1, 0)], [(0, 3), (0, 4), (1, 4), (1, 3)]]
        )

    def test_a_ring_within_a_ring(self):
        one, other = [
            pair for pair in itertools.product(slow_layings(block(4, 4)), repeat=2)
            if [(1, 1), (1, 2), (2, 1), (2, 2)] in slow_groups(*pair) and len(slow_groups(*pair)) == 2
        ][0]
        self.assertEqual([ring[0] for ring in self.assert_rings(one, other)], [(0, 0), (1, 1)])

    def test_equal_layings_have_none(self):
        for name, floor in FLOORS.items():
            with self.subTest(name):
                for laying in slow_layings(floor)[:20]:
                    self.assertEqual(rings(laying, laying), [])
                    self.assertEqual(rings(laying, moved(laying, 0, 0)), [])

    def test_different_layings_have_some(self):
        for name, floor in FLOORS.items():
            with self.subTest(name):
                for one, other in pairs(slow_layings(floor), 200):
                    self.assertEqual(rings(one, other) == [], one == other)

    def test_every_floor_within_three_by_four(self):
        for floor in floors_in(3, 4):
            for one, other in itertools.product(slow_layings(floor), repeat=2):
                self.assert_rings(one, other)

    def test_floors_of_many_shapes(self):
        for name, floor in FLOORS.items():
            with self.subTest(name):
                for one, other in pairs(slow_layings(floor), 300):
                    self.assert_rings(one, other)

    def test_a_turn_is_a_ring_of_four(self):
        for laying in slow_layings(block(4, 4)):
            for row, column in turns(laying):
                told = self.assert_rings(laying, turned(laying, (row, column)))
                self.assertEqual([(len(ring), ring[0]) for ring in told], [(4, (row, column))])

    def test_somewhat_more_squares_are_not_refused(self):
        for floor in (block(5, 6), block(2, 13), block(2, 4, 8, 9), block(2, 4, -1, -1)):
            for one, other in pairs(slow_layings(floor), 20):
                self.assert_rings(one, other)
        self.assertEqual(rings((), ()), [])


class LaidOtherwise(unittest.TestCase):
    def test_two_by_two(self):
        for ring in rings(LYING, STANDING) + rings(STANDING, LYING):
            self.assertEqual(laid_otherwise(LYING, ring), STANDING)
            self.assertEqual(laid_otherwise(STANDING, ring), LYING)

    def assert_made(self, floor, one, other):
        """Along all rings, in whatever order, the one becomes the other, and a laying after each ring."""
        told = rings(one, other)
        for order in (told, told[::-1]):
            for start, end in ((one, other), (other, one)):
                laying = start
                for ring in order:
                    further = laid_otherwise(laying, ring)
                    self.assertEqual(checked_laying(floor, further), further)
                    self.assertIs(type(further), tuple)
                    changed = [stone for stone in further if stone not in laying]
                    self.assertEqual(sorted(square for stone in changed for square in stone), sorted(ring))
                    self.assertEqual(laid_otherwise(further, ring), laying)
                    laying = further
                self.assertEqual(laying, end)

    def test_every_floor_within_three_by_four(self):
        for floor in floors_in(3, 4):
            for one, other in itertools.combinations(slow_layings(floor), 2):
                self.assert_made(floor, one, other)

    def test_floors_of_many_shapes(self):
        for name, floor in FLOORS.items():
            with self.subTest(name):
                for one, other in pairs(slow_layings(floor), 150):
                    self.assert_made(floor, one, other)

    def test_one_ring_of_several_leaves_the_others(self):
        one = tuple(sorted(LYING + moved(LYING, 0, 3)))
        other = tuple(sorted(STANDING + moved(STANDING, 0, 3)))
        left, right = rings(one, other)
        self.assertEqual(laid_otherwise(one, left), tuple(sorted(STANDING + moved(LYING, 0, 3))))
        self.assertEqual(laid_otherwise(one, right), tuple(sorted(LYING + moved(STANDING, 0, 3))))
        self.assertEqual(laid_otherwise(other, left), tuple(sorted(LYING + moved(STANDING, 0, 3))))

    def test_the_ring_and_the_laying_stay_as_they_were(self):
        for name in ("frame", "four by four", "diamond", "two pieces"):
            for one, other in pairs(slow_layings(FLOORS[name]), 50):
                for ring in rings(one, other):
                    before = repr((one, other, ring))
                    laid_otherwise(one, ring)
                    laid_otherwise(other, ring)
                    self.assertEqual(repr((one, other, ring)), before)


class NothingKept(unittest.TestCase):
    def test_told_lists_and_lists_in_them_that_are_emptied_change_no_later_answer(self):
        for name in ("frame", "four by four", "diamond", "two pieces"):
            for one, other in pairs(slow_layings(FLOORS[name]), 50):
                first = rings(one, other)
                before = copy.deepcopy(first)
                for ring in first:
                    ring.clear()
                second = rings(one, other)
                self.assertEqual(second, before, name)
                second.clear()
                first.reverse()
                self.assertEqual(rings(one, other), before, name)

    def test_a_ring_that_is_changed_changes_no_later_answer(self):
        ring = rings(LYING, STANDING)[0]
        made = laid_otherwise(LYING, ring)
        ring.clear()
        self.assertEqual(made, STANDING)
        self.assertEqual(laid_otherwise(LYING, rings(LYING, STANDING)[0]), STANDING)

    def test_equal_things_give_equal_answers(self):
        for name in ("frame", "four by four", "diamond", "two pieces"):
            for one, other in pairs(slow_layings(FLOORS[name]), 50):
                told = rings(moved(one, 0, 0), moved(other, 0, 0))
                self.assertEqual(told, rings(one, other))
                for ring in told:
                    self.assertEqual(laid_otherwise(moved(one, 0, 0), list(ring)), laid_otherwise(one, ring))


if __name__ == "__main__":
    unittest.main()
