"""Squares, floors, stones and layings: what is one, what is refused, and which floors are plain."""

from tilefloor.errors import BadFloor, BadLaying

LAST_LINE = 7
MOST_SQUARES = 24


def neighbours(square):
    row = square[0]
    column = square[1]
    return [(row - 1, column), (row, column - 1), (row, column + 1), (row + 1, column)]


def corner_neighbours(square):
    row = square[0]
    column = square[1]
    return [(row - 1, column - 1), (row - 1, column + 1), (row + 1, column - 1), (row + 1, column + 1)]


def all_around(square):
    return neighbours(square) + corner_neighbours(square)


def is_number(thing):
    # Python counts True and False among the whole numbers; here they are none.
    return isinstance(thing, int) and not isinstance(thing, bool)


def is_pair(thing):
    return isinstance(thing, tuple) and len(thing) == 2


# A square wherever it lies: only some refusals ask that it keeps to the lines 0 to 7.
def is_place(thing):
    return is_pair(thing) and is_number(thing[0]) and is_number(thing[1])


def is_square(thing):
    return is_place(thing) and 0 <= thing[0] <= LAST_LINE and 0 <= thing[1] <= LAST_LINE


def is_stone(thing):
    # Each part is known to be a square before anything is compared: a stranger's comparison may do anything.
    if not is_pair(thing) or not is_square(thing[0]) or not is_square(thing[1]):
        return False
    return thing[0] < thing[1] and thing[1] in neighbours(thing[0])


def is_rising(things):
    return all([one < other for one, other in zip(things, things[1:])])


# The refusals don't show what they refuse: it may be of any kind, and showing it may fail.
def checked(floor):
    if not isinstance(floor, tuple):
        raise BadFloor("a floor is a tuple of squares")
    if not 1 <= len(floor) <= MOST_SQUARES:
        raise BadFloor(f"a floor has 1 to {MOST_SQUARES} squares")
    if not all([is_square(thing) for thing in floor]):
        raise BadFloor(f"a square is a tuple of two whole numbers from 0 to {LAST_LINE}")
    if not is_rising(floor):
        raise BadFloor("the squares of a floor rise, none twice")
    return floor


def covered(stones):
    squares = []
    for stone in stones:
        squares.extend(stone)
    return sorted(squares)


def checked_laying(floor, laying):
    if not isinstance(laying, tuple):
        raise BadLaying("a laying is a tuple of stones")
    if not all([is_stone(thing) for thing in laying]):
        raise BadLaying("a stone is a tuple of two squares that are neighbours, the lesser first")
    if not is_rising(laying):
        raise BadLaying("the stones of a laying rise")
    if covered(laying) != list(floor):
        raise BadLaying("the stones cover each square of the floor once and no others")
    return laying


def reached(start, ground, around):
    found = {start: True}
    waiting = [start]
    while len(waiting) > 0:
        square = waiting.pop()
        for other in around(square):
            if other in ground and other not in found:
                found[other] = True
                waiting.append(other)
    return found


def hangs_together(floor):
    return len(reached(floor[0], floor, neighbours)) == len(floor)


def bare_squares(floor):
    rows = [square[0] for square in floor]
    columns = [square[1] for square in floor]
    bare = []
    # One line more on each side: what lies beyond the floor then hangs together round it.
    for row in range(min(rows) - 1, max(rows) + 2):
        for column in range(min(columns) - 1, max(columns) + 2):
            if (row, column) not in floor:
                bare.append((row, column))
    return bare


def has_hole(floor):
    bare = bare_squares(floor)
    return len(reached(bare[0], bare, all_around)) < len(bare)


def meet_by_corner_alone(floor, one, other):
    return other in floor and (one[0], other[1]) not in floor and (other[0], one[1]) not in floor


def has_bare_corner(floor):
    for square in floor:
        for other in corner_neighbours(square):
            if meet_by_corner_alone(floor, square, other):
                return True
    return False


def is_plain(floor):
    # Of no squares at all there is none that breaks one of the three.
    if len(floor) == 0:
        return True
    return hangs_together(floor) and not has_hole(floor) and not has_bare_corner(floor)
