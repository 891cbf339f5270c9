"""What the other files share: kinds of values, merges, and plans with their numbers of cars.

A tree is a plan in which each merge has its number of cars behind its sides:
(kind, one, two, size). A lane stays as it is, so item 3 of every tree is its
number of cars, and no way down a plan has to count them again.

A way is a tuple (lane, path). The functions here take valid values only.
"""

from ziplanes.errors import InvalidNumberError


def is_integer(value):
    """Whether any value is an integer: an int that is not a bool."""
    return isinstance(value, int) and not isinstance(value, bool)


def is_name(value):
    """Whether any value is the name of a lane."""
    return isinstance(value, str) and 1 <= len(value) <= 8 and all(["a" <= sign <= "z" for sign in value])


def is_car(value):
    """Whether any value is a tuple of a name and an integer from 0 on."""
    # A subclass of tuple is another kind, therefore no isinstance here.
    return (
        type(value) is tuple and len(value) == 2
        and is_name(value[0]) and is_integer(value[1]) and value[1] >= 0
    )


def check_number(value, most):
    """Raise InvalidNumberError unless a value is an integer from 0 to most."""
    if not is_integer(value) or value < 0 or value > most:
        raise InvalidNumberError("not an integer in the range")


def counted(plan):
    """The tree of a plan."""
    if plan[0] == "lane":
        return plan
    one, two = counted(plan[1]), counted(plan[2])
    return (plan[0], one, two, one[3] + two[3])


def ways_of(tree):
    """The ways of all lanes from left to right."""
    if tree[0] == "lane":
        return [(tree, [])]
    kind, one, two, _ = tree
    return (
        [(lane, [*path, (kind, 1, two[3])]) for lane, path in ways_of(one)]
        + [(lane, [*path, (kind, 2, one[3])]) for lane, path in ways_of(two)]
    )


def risen(merge, number):
    """The number behind a merge of a path that a car gets, given its number on its side."""
    kind, side, other = merge
    if kind == "zip":
        return number + min(number + side - 1, other)
    return number if side == 1 else number + other


def sunk(merge, count):
    """How many of the first cars behind a merge of a path are from its side, if that never ends.

    This counts the numbers for which risen(merge, number) < count.
    """
    kind, side, other = merge
    if kind == "zip":
        return max((count + 2 - side) // 2, count - other)
    return count if side == 1 else max(0, count - other)


def place_on(path, at):
    """The place of car number at, from 0 on, of a lane with this path."""
    for merge in path:
        at = risen(merge, at)
    return at


def count_on(path, count):
    """How many of the first cars are from a lane with this path, if the lane never ends."""
    for merge in reversed(path):
        count = sunk(merge, count)
    return count


def bends_on(path, many):
    """The ascending list of the cars, from 0 on, whose step may not be that of the car ahead.

    It is complete, but may hold cars too many. The first car is in it, the last one is not.
    """
    found = [0]
    for height, (kind, side, other) in enumerate(path):
        if kind == "zip":
            # The zip doubles steps below this number and keeps those from it on. So only the steps
            # of the first car that reaches it, and of the car ahead of that, can be other ones.
            turn = max(0, other - side + 1)
            at = count_on(path[:height], turn)
            found.extend([at - 1, at])
    return sorted(set([bend for bend in found if 0 <= bend < many - 1]))


def from_one(tree, count):
    """How many of the first cars of a merge are from its side 1."""
    kind, one, two, _ = tree
    return min(one[3], sunk((kind, 1, two[3]), count))


def car_in(tree, place):
    """The car at a place of a tree."""
    while tree[0] != "lane":
        ahead = from_one(tree, place)
        if from_one(tree, place + 1) > ahead:
            tree, place = tree[1], ahead
        else:
            tree, place = tree[2], place - ahead
    return (tree[1], tree[2] + place)
