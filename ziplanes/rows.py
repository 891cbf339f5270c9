"""Rows: all trees over a row of lanes, and the places that a car can have in them."""

from math import comb

from ziplanes.errors import InvalidCarError, InvalidNumberError, InvalidPlanError, InvalidRowError
from ziplanes.labels import shape_of
from ziplanes.plans import is_lane
from ziplanes.trees import check_number, is_car, place_on

MOST_IN_ROW = 12


def is_row(value):
    """Whether any value is a row."""
    return (
        type(value) is list and 1 <= len(value) <= MOST_IN_ROW
        and all([is_lane(item) for item in value])
        and len(set([lane[1] for lane in value])) == len(value)
    )


def check_row(value):
    """Raise InvalidRowError unless a value is a row."""
    if not is_row(value):
        raise InvalidRowError("not a row")


def lane_with(row, car):
    """The index of the lane of a row that has a car; InvalidCarError if there is none."""
    if is_car(car):
        for at, lane in enumerate(row):
            if lane[1] == car[0] and 0 <= car[1] - lane[2] < lane[3]:
                return at
    raise InvalidCarError("not a car of the row")


def count_forests(trees, lanes):
    """In how many ways so many trees can stand over so many lanes."""
    # These are the ballot numbers. Without lanes there is one way to have no tree.
    return trees * comb(2 * lanes - trees, lanes) // (2 * lanes - trees) if lanes > 0 else 1


def count_trees(lanes):
    """The number of the trees over a row of so many lanes."""
    check_number(lanes, MOST_IN_ROW)
    if lanes == 0:
        raise InvalidNumberError("not an integer from 1 on")
    return count_forests(1, lanes)


def nth_shape(lanes, index):
    """The shape of the tree with an index over so many lanes."""
    shape = ""
    trees = 1
    while trees > 0:
        # Trees are ordered as their shapes are, for "lane" comes ahead of "zip" as l does of z.
        with_lane = count_forests(trees - 1, lanes - 1)
        if index < with_lane:
            shape, trees, lanes = shape + "l", trees - 1, lanes - 1
        else:
            shape, trees, index = shape + "z", trees + 1, index - with_lane
    return shape


def tree_with(shape, row):
    """The tree of a shape without t over a row."""
    left = list(row)
    sides = []
    for sign in reversed(shape):
        if sign == "l":
            sides.append(left.pop())
        else:
            one = sides.pop()
            sides.append(("zip", one, sides.pop()))
    return sides[0]


def nth_tree(row, index):
    """The tree over a row with an index in the ascending order."""
    check_row(row)
    check_number(index, count_forests(1, len(row)) - 1)
    return tree_with(nth_shape(len(row), index), row)


def tree_rank(plan):
    """The index of a tree among those over its row."""
    shape = shape_of(plan)
    lanes = shape.count("l")
    if "t" in shape or lanes > MOST_IN_ROW:
        raise InvalidPlanError("not a tree over a row")
    rank = 0
    trees = 1
    for sign in shape:
        if sign == "l":
            trees, lanes = trees - 1, lanes - 1
        else:
            rank = rank + count_forests(trees - 1, lanes - 1)
            trees = trees + 1
    return rank


def growths_of(row, at):
    """The parts of a row around a lane, each behind the parts in it, with the ways to get it.

    A part is (low, high): the lanes from low on, without high. A way to get it is
    (inner, block, path): the zip of a smaller part around the lane and a block of lanes
    beside it, and the path from the smaller part up, with this merge alone.
    """
    ahead = [0]
    for lane in row:
        ahead.append(ahead[-1] + lane[3])
    found = []
    for low in range(at, -1, -1):
        for high in range(at + 1, len(row) + 1):
            lefts = [((cut, high), (low, cut), [("zip", 2, ahead[cut] - ahead[low])]) for cut in range(low + 1, at + 1)]
            rights = [((low, cut), (cut, high), [("zip", 1, ahead[high] - ahead[cut])]) for cut in range(at + 1, high)]
            found.append(((low, high), lefts + rights))
    return found


def least_numbers(growths, number, sign):
    """The least number of a car in the orders of the trees over each part, times a sign.

    With the sign -1 these are the greatest numbers. The car has the given number in its lane.
    A merge keeps the order of the numbers of a side, so the least one of a part comes from the
    least one of a smaller part.
    """
    found = {}
    for part, ways in growths:
        numbers = [sign * place_on(path, sign * found[inner]) for inner, _, path in ways]
        found[part] = min(numbers, default=sign * number)
    return found


def climb(row, car, sign):
    """The growths around the lane of a car, and the least numbers there."""
    check_row(row)
    at = lane_with(row, car)
    growths = growths_of(row, at)
    return growths, least_numbers(growths, car[1] - row[at][2], sign)


def earliest_place(row, car):
    """The least place of a car in the trees over a row."""
    _, numbers = climb(row, car, 1)
    return numbers[(0, len(row))]


def latest_place(row, car):
    """The greatest place of a car in the trees over a row."""
    _, numbers = climb(row, car, -1)
    return -numbers[(0, len(row))]


def earliest_tree_over(row, part, growths, numbers):
    """A tree over a part of a row in which a car has the least number."""
    for inner, block, path in growths[part]:
        if place_on(path, numbers[inner]) == numbers[part]:
            tree = earliest_tree_over(row, inner, growths, numbers)
            beside = tree_with(nth_shape(block[1] - block[0], 0), row[block[0]:block[1]])
            return ("zip", tree, beside) if path[0][1] == 1 else ("zip", beside, tree)
    return row[part[0]]


def earliest_tree(row, car):
    """A tree over a row in which a car has the least place."""
    growths, numbers = climb(row, car, 1)
    return earliest_tree_over(row, (0, len(row)), dict(growths), numbers)


def counts_from(found, ways):
    """A dict of the numbers that a car gets in these ways: in how many trees, given those of smaller parts."""
    counts = {}
    for inner, block, path in ways:
        blocks = count_forests(1, block[1] - block[0])
        for number, many in found[inner].items():
            behind = place_on(path, number)
            counts[behind] = counts.get(behind, 0) + many * blocks
    return counts


def trees_by_place(row, car):
    """A dict of the places that a car has in the trees over a row: in how many of them."""
    check_row(row)
    at = lane_with(row, car)
    found = {}
    for part, ways in growths_of(row, at):
        found[part] = counts_from(found, ways) if len(ways) > 0 else {car[1] - row[at][2]: 1}
    return found[(0, len(row))]


def possible_places(row, car):
    """The ascending list of the places that a car has in the trees over a row."""
    return sorted(trees_by_place(row, car))


def count_with_place(row, car, place):
    """The number of the trees over a row in which a car has a place."""
    counts = trees_by_place(row, car)
    check_number(place, sum([lane[3] for lane in row]) - 1)
    return counts.get(place, 0)
