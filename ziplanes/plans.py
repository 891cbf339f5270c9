"""Plans: lanes, zips and thens, and what is left of them."""

from ziplanes.errors import InvalidNameError, InvalidPlanError
from ziplanes.trees import check_number, counted, from_one, is_integer, is_name, ways_of

MOST_LANES = 40
# So many lanes, and one merge less than lanes.
MOST_PARTS = 79
MOST_JOINING = 10 ** 30


def is_lane(value):
    """Whether any value is a lane."""
    # The kind of each item is asked first: == of a value of another kind can answer anything.
    return (
        type(value) is tuple and len(value) == 4
        and isinstance(value[0], str) and value[0] == "lane"
        and is_name(value[1])
        and is_integer(value[2]) and value[2] >= 0
        and is_integer(value[3]) and value[3] >= 0
    )


def looks_like_merge(value):
    """Whether any value is a zip or a then, whatever its sides are."""
    return (
        type(value) is tuple and len(value) == 3
        and isinstance(value[0], str) and value[0] in ("zip", "then")
    )


def parts_of(value):
    """The merges and lanes of a plan, each merge ahead of its sides; an empty list if it is none."""
    names = set()
    parts = []
    waiting = [value]
    while waiting:
        part = waiting.pop()
        # To stop behind so many parts bounds the work for any value, also for one of 10 ** 5
        # levels, or one that holds the same tuple again and again.
        if len(parts) == MOST_PARTS:
            return []
        if looks_like_merge(part):
            waiting.extend([part[2], part[1]])
        elif is_lane(part) and part[1] not in names:
            names.add(part[1])
        else:
            return []
        parts.append(part)
    return parts


def parts_in(plan):
    """The merges and lanes of a plan, each merge ahead of its sides; InvalidPlanError if it is none."""
    parts = parts_of(plan)
    if not parts:
        raise InvalidPlanError("not a plan")
    return parts


def is_plan(value):
    """Whether any value is a plan."""
    return len(parts_of(value)) > 0


def tree_of(plan):
    """The tree of a plan; InvalidPlanError if it is none."""
    return counted(parts_in(plan)[0])


def way_to(tree, name):
    """The way of the lane with a name; InvalidNameError if there is none."""
    if isinstance(name, str):
        for lane, path in ways_of(tree):
            if lane[1] == name:
                return (lane, path)
    raise InvalidNameError("not the name of a lane of the plan")


def size_of(plan):
    """The number of the cars of a plan."""
    return tree_of(plan)[3]


def lanes_of(plan):
    """The list of the lanes of a plan from left to right."""
    return [way[0] for way in ways_of(tree_of(plan))]


def path_of(plan, name):
    """The path of a lane: the list of (kind, side, other) for the merges above it, from the lane up."""
    return way_to(tree_of(plan), name)[1]


def lengthened(plan, name, many):
    """The plan with so many cars more in a lane, for valid arguments."""
    if plan[0] != "lane":
        return (plan[0], lengthened(plan[1], name, many), lengthened(plan[2], name, many))
    if plan[1] != name:
        return plan
    return ("lane", name, plan[2], plan[3] + many)


def joined(plan, name, many):
    """The plan in which so many cars more stand at the end of a lane."""
    way_to(tree_of(plan), name)
    check_number(many, MOST_JOINING)
    return lengthened(plan, name, many)


def rest_of(tree, count):
    """The plan that is left of a tree when its first cars have left, for valid arguments."""
    if tree[0] == "lane":
        return ("lane", tree[1], tree[2] + count, tree[3] - count)
    kind, one, two, _ = tree
    ahead = from_one(tree, count)
    rest_one, rest_two = rest_of(one, ahead), rest_of(two, count - ahead)
    if kind == "zip" and count > 0 and from_one(tree, count - 1) < ahead:
        # The last car came from side 1, so it is the turn of side 2.
        return (kind, rest_two, rest_one)
    return (kind, rest_one, rest_two)


def rest_after(plan, count):
    """The plan that is left when the first cars have left."""
    tree = tree_of(plan)
    check_number(count, tree[3])
    return rest_of(tree, count)
