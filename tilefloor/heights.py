"""Heights of the corners of a plain floor under a laying, and the fewest turns between two layings."""

from tilefloor.errors import NotPlain
from tilefloor.floors import is_place, is_plain, is_rising


# What is handed in as the floor may be of any kind, so it is known to hold squares before it is looked through.
def holds_squares(floor):
    return isinstance(floor, tuple) and all([is_place(thing) for thing in floor]) and is_rising(floor)


def is_light(square):
    return (square[0] + square[1]) % 2 == 0


# Each way from a corner to the next one, with the square left of it and the square right of it.
def ways_from(corner):
    row = corner[0]
    column = corner[1]
    upper_left = (row - 1, column - 1)
    upper_right = (row - 1, column)
    lower_left = (row, column - 1)
    lower_right = (row, column)
    return [
        ((row - 1, column), upper_left, upper_right),
        ((row, column - 1), lower_left, upper_left),
        ((row, column + 1), upper_right, lower_right),
        ((row + 1, column), lower_right, lower_left),
    ]


def is_walked(floor, laying, left, right):
    if left not in floor and right not in floor:
        return False
    return (min(left, right), max(left, right)) not in laying


def steps_from(floor, laying, corner):
    steps = []
    for further, left, right in ways_from(corner):
        if is_walked(floor, laying, left, right):
            steps.append((further, 1 if is_light(left) else -1))
    return steps


def heights(floor, laying):
    if not holds_squares(floor) or not is_plain(floor):
        raise NotPlain("heights are told in a plain floor alone")
    # The least corner is the upper left one of the least square, and is called like it.
    waiting = list(floor[:1])
    found = dict([(corner, 0) for corner in waiting])
    while len(waiting) > 0:
        corner = waiting.pop()
        for further, rise in steps_from(floor, laying, corner):
            if further not in found:
                found[further] = found[corner] + rise
                waiting.append(further)
    return sorted(found.items())


def fewest_turns(floor, one, other):
    apart = [abs(under[1] - over[1]) for under, over in zip(heights(floor, one), heights(floor, other))]
    # A turn lifts or lowers the one corner in its midst, by 4.
    return sum(apart) // 4
