"""Labels: the names of the cars of an order, shapes of plans, and plans read back from both."""

from ziplanes.errors import InvalidLabelsError, InvalidShapeError
from ziplanes.plans import parts_in, tree_of
from ziplanes.trees import check_number, from_one, is_name

MOST_LABELS = 100
MOST_NAMES = 8
MOST_TOLD = 400


def are_labels(value):
    """Whether any value is a list of labels."""
    return (
        type(value) is list and 1 <= len(value) <= MOST_LABELS
        and all([is_name(item) for item in value])
        and len(set(value)) <= MOST_NAMES
    )


def check_labels(value):
    """Raise InvalidLabelsError unless a value is a list of labels."""
    if not are_labels(value):
        raise InvalidLabelsError("not labels")


def is_zip_shape(value):
    """Whether any value is a shape without t and with at most as many lanes as labels have names."""
    if not isinstance(value, str) or value.count("l") > MOST_NAMES:
        return False
    awaited = 1
    for sign in value:
        if awaited == 0 or sign not in ("l", "z"):
            return False
        awaited = awaited - 1 if sign == "l" else awaited + 1
    return awaited == 0


def names_within(tree, count):
    """The names of the first cars of a tree, for a valid count."""
    if tree[0] == "lane":
        return [tree[1]] * count
    ahead = from_one(tree, count)
    ones, twos = names_within(tree[1], ahead), names_within(tree[2], count - ahead)
    turns = min(len(ones), len(twos)) if tree[0] == "zip" else 0
    merged = [name for pair in zip(ones[:turns], twos[:turns]) for name in pair]
    return merged + ones[turns:] + twos[turns:]


def labels_of(plan, count):
    """The list of the names of the first cars."""
    tree = tree_of(plan)
    check_number(count, min(tree[3], MOST_TOLD))
    return names_within(tree, count)


def shape_of(plan):
    """The shape of a plan."""
    # The words of lanes, zips and thens begin with the signs of the shape.
    return "".join([part[0][0] for part in parts_in(plan)])


def splits_of(labels):
    """All pairs of lists of labels, without a name in both, for the sides of a zip with these labels."""
    last = {name: at for at, name in enumerate(labels)}
    side_of = {}
    ends = [0, 0]
    found = []
    for at, name in enumerate(labels):
        side = at % 2
        if side_of.setdefault(name, side) != side:
            break
        ends[side] = max(ends[side], last[name])
        if side == 1:
            # Up to here both sides have cars, and the rest may be from one of them alone.
            ones, twos, rest = labels[:at + 1:2], labels[1:at + 1:2], labels[at + 1:]
            if ends[1] <= at:
                found.append((ones + rest, twos))
            if ends[0] <= at and len(rest) > 0:
                found.append((ones, twos + rest))
    return found


def sides_of(shape):
    """The shapes of the two sides of a zip."""
    awaited = 1
    end = 1
    while awaited > 0:
        awaited = awaited - 1 if shape[end] == "l" else awaited + 1
        end = end + 1
    return shape[1:end], shape[end:]


def fitted(shape, labels):
    """The plan with a shape and labels, which has as many lanes as the labels have names; None if there is none."""
    if shape == "l":
        return ("lane", labels[0], 0, len(labels))
    shape_one, shape_two = sides_of(shape)
    for ones, twos in splits_of(labels):
        if len(set(ones)) == shape_one.count("l"):
            one, two = fitted(shape_one, ones), fitted(shape_two, twos)
            # No other split has so many: of two, the one with fewer turns has on one side all
            # names that the other one has there, and more.
            return ("zip", one, two) if one is not None and two is not None else None
    return None


def plan_with(shape, labels):
    """The plan with a shape without t that has these labels; None if there is none."""
    if not is_zip_shape(shape):
        raise InvalidShapeError("not a shape of zips with few lanes")
    check_labels(labels)
    return fitted(shape, labels) if shape.count("l") == len(set(labels)) else None


def plans_over(labels):
    """All plans without thens that have these labels."""
    if len(set(labels)) == 1:
        return [("lane", labels[0], 0, len(labels))]
    found = []
    for ones, twos in splits_of(labels):
        first, second = plans_over(ones), plans_over(twos)
        found.extend([("zip", one, two) for one in first for two in second])
    return found


def plans_with(labels):
    """The ascending list of all plans without thens that have these labels."""
    check_labels(labels)
    return sorted(plans_over(labels))
