"""Plans as strings, and lists of the cars that leave."""

from ziplanes.errors import InvalidFormatError
from ziplanes.plans import is_plan, parts_in, tree_of
from ziplanes.trees import car_in, check_number

SIGNS = {"zip": "+", "then": ">"}
KINDS = {"+": "zip", ">": "then"}
DIGITS = "0123456789"
MOST_LISTED = 400


def lane_text(lane):
    """The string of a lane."""
    _, name, first, many = lane
    return f"{name}{many}@{first}" if first > 0 else f"{name}{many}"


def format_plan(plan):
    """The string of a plan."""
    texts = []
    # From the last part on, the two sides of a merge are done when it comes, side 1 as the last one.
    for part in reversed(parts_in(plan)):
        if part[0] == "lane":
            texts.append(lane_text(part))
        else:
            one, two = texts.pop(), texts.pop()
            texts.append(f"({one} {SIGNS[part[0]]} {two})")
    return texts[0]


def is_number(word):
    """Whether a string is a number without leading zeros."""
    return word.isascii() and word.isdigit() and (word == "0" or not word.startswith("0"))


def lane_of(word):
    """The lane of a word, its name not yet checked; InvalidFormatError if its numbers are none."""
    ahead, sign, first = word.partition("@")
    name = ahead.rstrip(DIGITS)
    many = ahead[len(name):]
    if not is_number(many) or (sign == "@" and (first == "0" or not is_number(first))):
        raise InvalidFormatError("not the string of a lane")
    return ("lane", name, int(first) if sign == "@" else 0, int(many))


def merge_of(items):
    """The merge of what stands between two brackets, not yet checked."""
    if len(items) != 3:
        raise InvalidFormatError("not two plans and a sign between brackets")
    one, kind, two = items
    return (kind, one, two)


def value_of(text):
    """The value that a string stands for if it is the string of a plan; else InvalidFormatError or any value."""
    # What stands between the brackets that are open, the innermost last.
    opened = [[]]
    # With a space more at each bracket single spaces part all words, and any other space leaves an empty word.
    for word in text.replace("(", "( ").replace(")", " )").split(" "):
        if word == "(":
            opened.append([])
        elif word == ")":
            merge = merge_of(opened.pop())
            if not opened:
                raise InvalidFormatError("a bracket too many")
            opened[-1].append(merge)
        else:
            opened[-1].append(KINDS[word] if word in KINDS else lane_of(word))
    if len(opened) != 1 or len(opened[0]) != 1:
        raise InvalidFormatError("a bracket too few, or more than one plan")
    return opened[0][0]


def parse_plan(text):
    """The plan of a string."""
    if not isinstance(text, str):
        raise InvalidFormatError("not a string")
    value = value_of(text)
    # This finds signs in place of plans and plans in place of signs, too.
    if not is_plan(value):
        raise InvalidFormatError("not the string of a plan")
    return value


def line_of(place, car):
    """The string for a car at a place."""
    name, number = car
    return f"{place:>5} {name:<9}{number:>5}"


def listed(plan, first, count):
    """The list of the strings for the next cars from the place first on."""
    tree = tree_of(plan)
    check_number(first, tree[3])
    check_number(count, min(tree[3] - first, MOST_LISTED))
    return [line_of(place, car_in(tree, place)) for place in range(first, first + count)]
