"""What the tests share: floors from pictures, strange things, and slow answers found in another way."""

import itertools


def floor_of(*rows, down=0, right=0):
    """The floor of a picture, a text for each row, `#` for a square; moved down and right."""
    squares = []
    for row, text in enumerate(rows):
        for column, sign in enumerate(text):
            if sign == "#":
                squares.append((row + down, column + right))
    return tuple(squares)


def block(rows, columns, down=0, right=0):
    return floor_of(*["#" * columns] * rows, down=down, right=right)


def floors_in(rows, columns):
    """Every floor within a block."""
    squares = block(rows, columns)
    for size in range(1, len(squares) + 1):
        yield from itertools.combinations(squares, size)


def beside(one, other):
    return abs(one[0] - other[0]) + abs(one[1] - other[1]) == 1


def slow_layings(floor):
    """All layings, rising: the last square is covered in every way, then the rest."""

    def ends(squares):
        if not squares:
            return [[]]
        last = squares[-1]
        found = []
        for other in squares[:-1]:
            if beside(other, last):
                rest = [square for square in squares if square not in (other, last)]
                found.extend([stones + [(other, last)] for stones in ends(rest)])
        return found

    return sorted(tuple(sorted(stones)) for stones in ends(list(floor)))


def slow_fixed(floor):
    layings = slow_layings(floor)
    if not layings:
        return []
    return sorted(set(layings[0]).intersection(*layings))


def is_crowd(floor, squares):
    shades = {(row + column) % 2 for row, column in squares}
    around = {square for square in floor if any(beside(square, one) for one in squares)}
    return len(shades) == 1 and len(set(squares)) == len(squares) and len(around) < len(squares)


def has_crowd(floor):
    for shade in (0, 1):
        alike = [square for square in floor if sum(square) % 2 == shade]
        for size in range(1, len(alike) + 1):
            if any(is_crowd(floor, some) for some in itertools.combinations(alike, size)):
                return True
    return False


def slow_plain(floor):
    """Plain by another road: in one piece, no two squares that meet by a corner alone, and, by Euler's
    count of corners, sides and squares, without a hole."""
    squares = set(floor)
    piece = {floor[0]}
    while True:
        more = {square for square in squares - piece if any(beside(square, one) for one in piece)}
        if not more:
            break
        piece |= more
    corners = {(r + a, c + b) for r, c in squares for a in (0, 1) for b in (0, 1)}
    sides = {((r, c), way) for r, c in squares for way in "ab"}
    sides |= {((r + 1, c), "a") for r, c in squares} | {((r, c + 1), "b") for r, c in squares}
    for r, c in corners:
        around = [square in squares for square in ((r - 1, c - 1), (r - 1, c), (r, c), (r, c - 1))]
        if around in ([True, False, True, False], [False, True, False, True]):
            return False
    return piece == squares and len(corners) - len(sides) + len(squares) == 1


def slow_turned(laying):
    """Every turn of a laying with what it is turned to: two of its stones that make a block of four squares."""
    found = {}
    for one, other in itertools.combinations(laying, 2):
        squares = sorted(one + other)
        row, column = squares[0]
        if squares == [(row, column), (row, column + 1), (row + 1, column), (row + 1, column + 1)]:
            across = {(squares[0], squares[1]), (squares[2], squares[3])}
            upright = {(squares[0], squares[2]), (squares[1], squares[3])}
            put = upright if {one, other} == across else across
            found[squares[0]] = tuple(sorted(set(laying) - {one, other} | put))
    return found


def slow_distances(layings, start):
    """The fewest turns from one laying to each one that can be made of it: rounds over all that are left."""
    far = {start: 0}
    left = set(layings) - {start}
    while True:
        last = max(far.values())
        near = [laying for laying in far if far[laying] == last]
        made = {other for laying in near for other in slow_turned(laying).values()} & left
        if not made:
            return far
        far.update(dict.fromkeys(made, last + 1))
        left -= made


def drawn(laying, rows, columns):
    """A laying as a text of so many rows and columns, whether or not the last ones have a square."""
    signs = [["."] * columns for row in range(rows)]
    for (row, column), other in laying:
        signs[row][column] = "<" if other == (row, column + 1) else "^"
        signs[other[0]][other[1]] = ">" if other == (row, column + 1) else "v"
    return "".join("".join(line) + "\n" for line in signs)


def laying_of(*rows):
    """The laying of a picture, a text for each row."""
    stones = []
    for row, text in enumerate(rows):
        for column, sign in enumerate(text):
            if sign in "<^":
                stones.append(((row, column), (row, column + 1) if sign == "<" else (row + 1, column)))
    return tuple(stones)


def moved(laying, down, right):
    return tuple(tuple((row + down, column + right) for row, column in stone) for stone in laying)


class Prickly:
    """A thing that can't be compared, counted, walked, hashed or shown."""

    def fail(self, *others):
        raise RuntimeError("not to be touched")

    __eq__ = __ne__ = __lt__ = __le__ = __gt__ = __ge__ = __hash__ = fail
    __len__ = __iter__ = __bool__ = __getitem__ = __contains__ = __int__ = __index__ = fail
    __repr__ = __str__ = fail


def strange_things():
    """Things that are neither a floor nor a laying, a square, a stone or a number, new ones each time."""
    ring = []
    ring.append(ring)
    deep = ()
    for _ in range(5000):
        deep = (deep,)
    return [
        None, True, False, 0, 1, -1, 10 ** 5000, 1.0, float("nan"), 2j,
        "", "#", "((0, 0), (0, 1))", b"##", [], {}, set(), frozenset(), ring, deep, object(), Prickly(),
        range(2), iter(()), (n for n in ()), len, int, Prickly, lambda: (), NotImplemented, ...,
        [(0, 0), (0, 1)], {(0, 0): (0, 1)}, {(0, 0), (0, 1)}, [((0, 0), (0, 1))],
    ]


# Floors of several shapes and sizes, by name.
FLOORS = {
    "one square": block(1, 1),
    "one square, low right": block(1, 1, 7, 7),
    "one stone": block(1, 2),
    "one stone upright": block(2, 1, 6, 7),
    "a row of eight": block(1, 8),
    "a column of eight": block(8, 1, 0, 7),
    "two by two": block(2, 2, 6, 6),
    "two by eight": block(2, 8, 6, 0),
    "three by three": block(3, 3),
    "three by four": block(3, 4, 2, 2),
    "four by four": block(4, 4, 4, 4),
    "four by five": block(4, 5),
    "three by eight": block(3, 8, 5, 0),
    "eight by three": block(8, 3, 0, 5),
    "four by six": block(4, 6, 2, 1),
    "without two opposite corners": floor_of(".###", "####", "####", "###."),
    "without two corners of a side": floor_of(".##.", "####", "####", "####"),
    "frame": floor_of("###", "#.#", "###"),
    "frame of four": floor_of("####", "#..#", "#..#", "####"),
    "two holes": floor_of("#####", "#.#.#", "#####", down=5, right=3),
    "thick frame": floor_of("#####", "#####", "##.##", "#####", "####.", down=3, right=3),
    "two pieces": floor_of("##..##", "##..##"),
    "three pieces": floor_of("##.#", "...#", "", "####", "####"),
    "pieces in the four corners": ((0, 0), (0, 1), (0, 6), (0, 7), (7, 0), (7, 1), (7, 6), (7, 7)),
    "single squares": ((0, 0), (0, 7), (7, 0), (7, 7)),
    "corner alone": floor_of("##..", "..##"),
    "steps": floor_of("##..", ".##.", "..##"),
    "tee": floor_of("###", ".#."),
    "cross": floor_of(".#.", "###", ".#."),
    "comb": floor_of("#.#.#.#.", "########", ".#.#.#.#", down=2),
    "two tees": floor_of("###...", ".#..#.", "...###"),
    "bridge of odd ends": floor_of("###..###", "########", "###..###"),
    "diamond": floor_of("..##..", ".####.", "######", "######", ".####.", "..##.."),
    "winding": floor_of("########", ".......#", "########", "#.......", "######", down=3),
    "199 layings": floor_of("#####.", "#####.", "######", "######", "..##.."),
    "200 layings": floor_of("##...", "#####", "#####", "#####", "#####", "##...", down=1, right=2),
    "200 layings too": floor_of("#######", "#######", "..####.", "..####.", "..##..."),
    "202 layings": floor_of("..#####", "#######", "#######", "..#####", down=4, right=1),
}
