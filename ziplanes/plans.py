"""Plans: lanes, zips and thens, and what is left of them."""

from ziplanes.errors import InvalidNameError, InvalidPlanError
from ziplanes.trees import check_number, counted, find_way, from_one, is_name

# So many lanes, and one merge less than lanes.
MOST_PARTS = 79
MOST_JOINING = 10 ** 30


def parts_of(value):
    """The parts of a plan; an empty list if any value is no plan."""
    parts = []
    names = []
    waiting = [value]
    while waiting:
        part = waiting.pop()
        # To stop behind so many parts bounds the work for any value, also for one of 10 ** 5
        # levels, or one that holds the same tuple again and again.
        if type(part) is not tuple or len(parts) == MOST_PARTS:
            return []
        parts.append(part)
        # The kind of each item is asked first: == of a value of another kind can answer anything.
        if len(part) == 4:
            word, name, first, many = part
            if not (
                isinstance(word, str) and word == "lane" and is_name(name)
                and isinstance(first, int) and first is not True and first is not False and first >= 0
                and isinstance(many, int) and many is not True and many is not False and many >= 0
            ):
                return []
            names.append(name)
        elif len(part) == 3:
            kind, one, two = part
            if not isinstance(kind, str) or kind not in ("zip", "then"):
                return []
            waiting.append(two)
            waiting.append(one)
        else:
            return []
    return parts if len(set(names)) == len(names) else []


def is_lane(value):
    """Whether any value is a lane."""
    return len(parts_of(value)) == 1


def parts_in(plan):
    """The parts of a plan; InvalidPlanError if it is none."""
    parts = parts_of(plan)
    if not parts:
        raise InvalidPlanError("not a plan")
    return parts


def tree_of(plan):
    """The tree of a plan; InvalidPlanError if it is none."""
    return counted(parts_in(plan))


def way_to(plan, name):
    """The way of the lane with a name; InvalidPlanError and InvalidNameError."""
    parts = parts_in(plan)
    way = find_way(parts, name) if isinstance(name, str) else None
    if way is None:
        raise InvalidNameError("not the name of a lane of the plan")
    return way


def is_plan(value):
    """Whether any value is a plan."""
    return len(parts_of(value)) > 0


def check_plan(value):
    """Raise InvalidPlanError unless a value is a plan."""
    if not is_plan(value):
        raise InvalidPlanError("not a plan")


def size_of(plan):
    """The number of the cars of a plan."""
    return sum([lane[3] for lane in lanes_of(plan)])


def lanes_of(plan):
    """The list of the lanes of a plan from left to right."""
    return [part for part in parts_in(plan) if part[0] == "lane"]


def path_of(plan, name):
    """The path of a lane: the list of (kind, side, other) for the merges above it, from the lane up."""
    return way_to(plan, name)[1]


def joined(plan, name, many):
    """The plan in which so many cars more stand at the end of a lane."""
    lane, path = way_to(plan, name)
    check_number(many, MOST_JOINING)
    # Down to the lane, and up again with a new merge for each one on the path.
    merges = []
    part = plan
    for merge in reversed(path):
        merges.append(part)
        part = part[merge[1]]
    now = ("lane", name, lane[2], lane[3] + many)
    for kind, side, _ in path:
        _, one, two = merges.pop()
        now = (kind, now, two) if side == 1 else (kind, one, now)
    return now


def rest_of(tree, count):
    """The plan that is left of a tree when its first cars have left, for valid arguments."""
    if tree[0] == "lane":
        return ("lane", tree[1], tree[2] + count, tree[3] - count)
    kind, one, two, _, plan = tree
    if count == 0:
        return plan
    ahead = from_one(tree, count)
    rest_one, rest_two = rest_of(one, ahead), rest_of(two, count - ahead)
    # The last car of a zip came from the side from which more cars have left, or from side 2:
    # by turns side 1 is never more than one ahead, and without turns one side is all that moves.
    if kind == "zip" and ahead > count - ahead:
        return (kind, rest_two, rest_one)
    return (kind, rest_one, rest_two)


def rest_after(plan, count):
    """The plan that is left when the first cars have left."""
    tree = tree_of(plan)
    check_number(count, tree[3])
    return rest_of(tree, count)
