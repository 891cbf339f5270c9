"""The definitions of the document, followed car by car, and plans to compare with them."""

import random


def lane(name, many, first=0):
    return ("lane", name, first, many)


P = ("zip", lane("a", 3), ("zip", lane("b", 2), lane("c", 4)))
FAR = ("zip", lane("a", 10 ** 30), ("zip", lane("b", 5), lane("c", 10 ** 20)))


def order_of(plan):
    if plan[0] == "lane":
        return [(plan[1], plan[2] + at) for at in range(plan[3])]
    one, two = order_of(plan[1]), order_of(plan[2])
    if plan[0] == "then":
        return one + two
    merged = []
    while one and two:
        merged.append(one.pop(0))
        one, two = two, one
    return merged + one + two


def lanes_in(plan):
    if plan[0] == "lane":
        return [plan]
    return lanes_in(plan[1]) + lanes_in(plan[2])


def path_in(plan, name):
    """The path of a lane, None if the plan does not have it."""
    if plan[0] == "lane":
        return [] if plan[1] == name else None
    for side, other in ((1, 2), (2, 1)):
        path = path_in(plan[side], name)
        if path is not None:
            return path + [(plan[0], side, len(order_of(plan[other])))]
    return None


def pieces_in(plan, name):
    rows = [(car[1], place) for place, car in enumerate(order_of(plan)) if car[0] == name]
    if len(rows) == 1:
        return [(*rows[0], 0)]
    steps = [(*row, behind[1] - row[1]) for row, behind in zip(rows, rows[1:])]
    return [row for at, row in enumerate(steps) if at == 0 or row[2] != steps[at - 1][2]]


def rest_in(plan, count):
    """What is left, with each car followed to the side from which it came."""
    gone = order_of(plan)[:count]
    if plan[0] == "lane":
        return lane(plan[1], plan[3] - count, plan[2] + count)
    ones = {row[1] for row in lanes_in(plan[1])}
    from_one = [car[0] in ones for car in gone]
    one, two = rest_in(plan[1], from_one.count(True)), rest_in(plan[2], from_one.count(False))
    if plan[0] == "zip" and from_one and from_one[-1]:
        one, two = two, one
    return (plan[0], one, two)


def joined_in(plan, name, many):
    if plan[0] == "lane":
        return lane(name, plan[3] + many, plan[2]) if plan[1] == name else plan
    return (plan[0], joined_in(plan[1], name, many), joined_in(plan[2], name, many))


def text_in(plan):
    """The string of a plan."""
    if plan[0] == "lane":
        return plan[1] + str(plan[3]) + ("@" + str(plan[2]) if plan[2] else "")
    return "(" + text_in(plan[1]) + (" + " if plan[0] == "zip" else " > ") + text_in(plan[2]) + ")"


def difference_of(one, two):
    first, second = order_of(one), order_of(two)
    for place in range(max(len(first), len(second))):
        if first[place:place + 1] != second[place:place + 1]:
            return place
    return None


def plan_over(source, lanes, kinds=("zip", "zip", "then")):
    """A plan with these lanes from left to right, its merges drawn from a seeded source."""
    if len(lanes) == 1:
        return lanes[0]
    cut = source.randint(1, len(lanes) - 1)
    return (source.choice(kinds), plan_over(source, lanes[:cut], kinds), plan_over(source, lanes[cut:], kinds))


def drawn_plan(source, most_lanes=5, most_cars=6, kinds=("zip", "zip", "then")):
    names = source.sample("abcdefgh", source.randint(1, most_lanes))
    lanes = [lane(name, source.randint(0, most_cars), source.choice((0, 0, 3))) for name in names]
    return plan_over(source, lanes, kinds)


def drawn_plans(seed, many, **more):
    source = random.Random(seed)
    return [drawn_plan(source, **more) for _ in range(many)]


def trees_over(lanes):
    """All trees over a row."""
    if len(lanes) == 1:
        return [lanes[0]]
    return [
        ("zip", one, two) for cut in range(1, len(lanes))
        for one in trees_over(lanes[:cut]) for two in trees_over(lanes[cut:])
    ]


def shape_in(plan):
    return "l" if plan[0] == "lane" else plan[0][0] + shape_in(plan[1]) + shape_in(plan[2])


def shapes_with(lanes):
    """All shapes of trees with so many lanes, ascending."""
    return sorted(shape_in(tree) for tree in trees_over([lane("a", 1)] * lanes))


def names_in(plan):
    return [car[0] for car in order_of(plan)]


def lane_name(at):
    return "l" + chr(97 + at // 26) + chr(97 + at % 26)


def chain(lanes, many, left=False, kind="zip"):
    """A chain of so many lanes with so many cars each, the merges all on one side."""
    plan = lane(lane_name(0), many)
    for at in range(1, lanes):
        row = lane(lane_name(at), many)
        plan = (kind, plan, row) if left else (kind, row, plan)
    return plan


class SlowRoad:
    """A live road followed car by car, with all that it has kept ahead of each call."""

    def __init__(self, plan):
        counts = {row[1]: 0 for row in lanes_in(plan)}
        self.states = [(plan, 0, [], counts)]

    def leave(self, count, logged):
        plan, gone, log, counts = self.states[-1]
        cars = order_of(plan)[:count]
        counts = {name: many + [car[0] for car in cars].count(name) for name, many in counts.items()}
        self.states.append((rest_in(plan, count), gone + count, log + cars if logged else log, counts))
        return cars

    def arrive(self, name, many):
        plan, *others = self.states[-1]
        self.states.append((joined_in(plan, name, many), *others))

    def undo(self):
        self.states.pop()


class Always:
    """A value that says to be equal to everything."""

    def __eq__(self, other):
        return True

    def __hash__(self):
        return 0
