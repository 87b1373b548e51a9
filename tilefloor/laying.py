"""A laying of a floor or a crowd, how many layings there are, all of them, and what lies in every one."""

from tilefloor.errors import TooMany
from tilefloor.floors import neighbours

MOST_TOLD = 200


def pair_along(end, met_from, partner):
    other = end
    while other is not None:
        square = met_from[other]
        # What the square lay with before is free now, and pairs with the one it was met from.
        freed = partner.get(square)
        partner[square] = other
        partner[other] = square
        other = freed


def crowd_unless_paired(floor, start, partner):
    alike = [start]
    met_from = {}
    at = 0
    while at < len(alike):
        square = alike[at]
        for other in neighbours(square):
            if other in floor and other not in met_from:
                met_from[other] = square
                if other not in partner:
                    pair_along(other, met_from, partner)
                    return []
                alike.append(partner[other])
        at += 1
    # Every neighbour of these squares was met and is paired with one of them, and the start is left over.
    return sorted(alike)


def laid(floor):
    partner = {}
    for square in floor:
        if square not in partner:
            crowd = crowd_unless_paired(floor, square, partner)
            if len(crowd) > 0:
                return ("crowd", crowd)
    return ("laid", tuple([(square, partner[square]) for square in floor if square < partner[square]]))


# The floor is gone through square by square. Taken are the squares from here on that a stone covers already,
# rising: a stone to the right takes the very next square, one downward a square behind all that are taken.
def steps(floor, at, taken):
    square = floor[at]
    if square in taken:
        return [((), taken[1:])]
    right = (square[0], square[1] + 1)
    below = (square[0] + 1, square[1])
    found = []
    if right in floor and right not in taken:
        found.append((((square, right),), (right,) + taken))
    if below in floor:
        found.append((((square, below),), taken + (below,)))
    return found


def ways(floor, at, taken, known):
    if at == len(floor):
        return 1
    if (at, taken) not in known:
        further = [ways(floor, at + 1, rest, known) for stones, rest in steps(floor, at, taken)]
        known[(at, taken)] = sum(further)
    return known[(at, taken)]


def count(floor):
    return ways(floor, 0, (), {})


def gone_on(floor, at, begun, known):
    further = []
    for stones, taken in begun:
        for more, rest in steps(floor, at, taken):
            # A beginning that can't be ended is dropped at once, so there are never more of them than layings.
            if ways(floor, at + 1, rest, known) > 0:
                further.append((stones + more, rest))
    return further


def all_layings(floor):
    known = {}
    if ways(floor, 0, (), known) > MOST_TOLD:
        raise TooMany(f"the floor has more than {MOST_TOLD} layings")
    # The stone to the right is the lesser one and comes first in each step, so the layings come rising.
    begun = [((), ())]
    for at in range(len(floor)):
        begun = gone_on(floor, at, begun, known)
    return [stones for stones, taken in begun]


def without(floor, stone):
    return tuple([square for square in floor if square not in stone])


def fixed(floor):
    told = laid(floor)
    if told[0] == "crowd":
        return []
    every = count(floor)
    # A stone lies in as many layings as the floor has without the two squares under it.
    return [stone for stone in told[1] if count(without(floor, stone)) == every]
