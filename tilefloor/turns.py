"""Turns of a laying, a laying turned at one of them, and a shortest road of turns from one laying to another."""

from tilefloor.errors import NoTurn, TooMany
from tilefloor.floors import is_place
from tilefloor.laying import MOST_TOLD, count
from tilefloor.rings import has_all, laid_otherwise, stones_along


# The four squares of a turn, as the ring that the two stones make with the two that lie the other way.
def ring_at(square):
    row = square[0]
    column = square[1]
    return [(row, column), (row, column + 1), (row + 1, column + 1), (row + 1, column)]


def is_turn(laying, square):
    ring = ring_at(square)
    return has_all(laying, stones_along(ring, 0)) or has_all(laying, stones_along(ring, 1))


def turns(laying):
    # The square of a turn is the lesser one of its stone, and these rise as the stones do.
    return [stone[0] for stone in laying if is_turn(laying, stone[0])]


def turned(laying, square):
    # The square may be of any kind, so it is known to be one before it is compared with anything.
    if not is_place(square) or not is_turn(laying, square):
        raise NoTurn("the laying has no turn there")
    return laid_otherwise(laying, ring_at(square))


def way_back(came_from, end):
    squares = []
    step = came_from[end]
    while step is not None:
        squares.append(step[1])
        step = came_from[step[0]]
    squares.reverse()
    return squares


def road(floor, one, other):
    if count(floor) > MOST_TOLD:
        raise TooMany(f"the floor has more than {MOST_TOLD} layings")
    came_from = {one: None}
    met = [one]
    at = 0
    # Layings are met in the order of their fewest turns, so the first road found is a shortest one.
    while at < len(met) and other not in came_from:
        laying = met[at]
        for square in turns(laying):
            further = turned(laying, square)
            if further not in came_from:
                came_from[further] = (laying, square)
                met.append(further)
        at += 1
    if other not in came_from:
        return None
    return way_back(came_from, other)
