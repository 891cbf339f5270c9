"""What the other files share: kinds of values, merges, and plans with their numbers of cars.

The parts of a plan are the list of its merges and lanes, each merge ahead of its
side 1, and that ahead of its side 2.

A tree is a plan in which each merge has its number of cars behind its sides, and
behind that the merge of the plan: (kind, one, two, size, plan). A lane stays as it
is, so item 3 of every tree is its number of cars, and no way down a plan has to
count them again.

A way is a tuple (lane, path). The functions here take valid values only.
"""

from ziplanes.errors import InvalidNumberError


def is_integer(value):
    """Whether any value is an integer: an int that is not a bool."""
    return isinstance(value, int) and not isinstance(value, bool)


def is_name(value):
    """Whether any value is the name of a lane."""
    return isinstance(value, str) and len(value) <= 8 and value.isascii() and value.isalpha() and value.islower()


def is_car(value):
    """Whether any value is a tuple of a name and an integer from 0 on."""
    # A subclass of tuple is another kind, therefore no isinstance here.
    return (
        type(value) is tuple and len(value) == 2
        and is_name(value[0]) and is_integer(value[1]) and value[1] >= 0
    )


def check_number(value, most):
    """Raise InvalidNumberError unless a value is an integer from 0 to most."""
    if not is_integer(value) or value < 0 or value > most:
        raise InvalidNumberError("not an integer in the range")


def counted(parts):
    """The tree of a plan with these parts."""
    trees = []
    # From the last part on, the two sides of a merge are done when it comes, side 1 as the last one.
    for part in reversed(parts):
        if part[0] == "lane":
            trees.append(part)
        else:
            one, two = trees.pop(), trees.pop()
            trees.append((part[0], one, two, one[3] + two[3], part))
    return trees[0]


def ways_of(tree):
    """The ways of all lanes from left to right."""
    found = []
    waiting = [(tree, [])]
    while waiting:
        part, path = waiting.pop()
        if part[0] == "lane":
            found.append((part, path))
        else:
            kind, one, two = part[:3]
            waiting.append((two, [(kind, 2, one[3]), *path]))
            waiting.append((one, [(kind, 1, two[3]), *path]))
    return found


def find_way(parts, name):
    """The way of the lane with a name; None if no lane has it."""
    lane = None
    path = []
    # The numbers of the cars of the trees that are done, as in counted, and where the lane is among them.
    sizes = []
    at = -1
    for part in reversed(parts):
        if part[0] == "lane":
            if part[1] == name:
                lane, at = part, len(sizes)
            sizes.append(part[3])
        else:
            one, two = sizes.pop(), sizes.pop()
            if at == len(sizes):
                path.append((part[0], 2, one))
            elif at > len(sizes):
                path.append((part[0], 1, two))
                at = len(sizes)
            sizes.append(one + two)
    return None if lane is None else (lane, path)


def place_on(path, at):
    """The place of car number at, from 0 on, of a lane with this path."""
    for kind, side, other in path:
        if kind == "zip":
            turns = at + side - 1
            at = at + (turns if turns < other else other)
        elif side == 2:
            at = at + other
    return at


def from_one(tree, count):
    """How many of the first cars of a merge are from its side 1."""
    one, two = tree[1][3], tree[2][3]
    if tree[0] == "zip":
        return min(one, max((count + 1) // 2, count - two))
    return min(one, count)


def car_in(tree, place):
    """The car at a place of a tree."""
    while tree[0] != "lane":
        kind, one, two = tree[:3]
        if kind == "zip" and place < 2 * min(one[3], two[3]):
            tree, place = two if place % 2 == 1 else one, place // 2
        elif kind == "zip" and one[3] > two[3]:
            tree, place = one, place - two[3]
        elif place < one[3]:
            tree = one
        else:
            tree, place = two, place - one[3]
    return (tree[1], tree[2] + place)
