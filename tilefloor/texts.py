"""A laying written as a text, and a text read back to the floor and the laying."""

from tilefloor.errors import BadFloor, BadText
from tilefloor.floors import checked, covered

# Eight rows of eight signs and a line end.
MOST_SIGNS = 72


def signs_of(laying):
    signs = {}
    for lesser, greater in laying:
        stands = lesser[1] == greater[1]
        signs[lesser] = "^" if stands else "<"
        signs[greater] = "v" if stands else ">"
    return signs


def shown_row(signs, row, wide):
    return "".join([signs.get((row, column), ".") for column in range(wide)])


def shown(laying):
    signs = signs_of(laying)
    high = max([square[0] + 1 for square in signs], default=0)
    wide = max([square[1] + 1 for square in signs], default=0)
    return "".join([shown_row(signs, row, wide) + "\n" for row in range(high)])


# The stones by the signs of their lesser squares alone: whether the other signs fit is seen when the laying
# is shown again.
def stones_in(text):
    stones = []
    for row, line in enumerate(text.split("\n")):
        for column, sign in enumerate(line):
            if sign == "<":
                stones.append(((row, column), (row, column + 1)))
            elif sign == "^":
                stones.append(((row, column), (row + 1, column)))
    return tuple(stones)


def read(text):
    if not isinstance(text, str) or len(text) > MOST_SIGNS:
        raise BadText("a laying is written as a text of at most eight rows and columns")
    laying = stones_in(text)
    try:
        # Stones over one another, out of bounds or too many make no floor.
        floor = checked(tuple(covered(laying)))
    except BadFloor:
        raise BadText("the signs are not those of the stones of a floor") from None
    if shown(laying) != text:
        raise BadText("the laying that is told would be written otherwise")
    return (floor, laying)
