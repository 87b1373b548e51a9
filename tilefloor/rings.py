"""Rings of two layings laid over one another, and a laying laid the other way along one ring."""

from tilefloor.floors import covered


def partners(laying):
    partner = {}
    for lesser, greater in laying:
        partner[lesser] = greater
        partner[greater] = lesser
    return partner


def ring_from(start, first, second):
    ring = [start, first[start]]
    square = second[first[start]]
    while square != start:
        ring.append(square)
        ring.append(first[square])
        square = second[first[square]]
    return ring


def rings(one, other):
    first = partners(one)
    second = partners(other)
    seen = {}
    told = []
    for start in covered(one):
        if start not in seen:
            ring = ring_from(start, first, second)
            for square in ring:
                seen[square] = True
            # A stone that lies in both layings makes a ring of its two squares, which is not told.
            if len(ring) > 2:
                told.append(ring)
    return told


# Every other pair of squares that follow one another: from 1 those of the first laying, from 0 those of the
# other one, whose last square lies with the first.
def stones_along(ring, begin):
    stones = []
    for at in range(begin, len(ring), 2):
        stones.append((min(ring[at - 1], ring[at]), max(ring[at - 1], ring[at])))
    return stones


def has_all(laying, stones):
    return all([stone in laying for stone in stones])


def laid_otherwise(laying, ring):
    taken = stones_along(ring, 1)
    put = stones_along(ring, 0)
    # A ring belongs to two layings, and either may be laid otherwise along it.
    if not has_all(laying, taken):
        taken = stones_along(ring, 0)
        put = stones_along(ring, 1)
    kept = [stone for stone in laying if stone not in taken]
    return tuple(sorted(kept + put))
