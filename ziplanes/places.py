"""Places: where cars leave, which car leaves where, and where two plans differ."""

from ziplanes.errors import InvalidCarError
from ziplanes.plans import parts_in, tree_of, way_to
from ziplanes.trees import car_in, check_number, find_way, from_one, is_car, place_on, ways_of


def place_on_way(way, number):
    """The place of the car with this number in its name; None if the lane does not have it."""
    lane, path = way
    at = number - lane[2]
    return place_on(path, at) if 0 <= at < lane[3] else None


def find_place(plan, value):
    """The place of any value in a plan; None if it is no car of the plan."""
    parts = parts_in(plan)
    way = find_way(parts, value[0]) if is_car(value) else None
    return None if way is None else place_on_way(way, value[1])


def place_of(plan, car):
    """The place of a car."""
    place = find_place(plan, car)
    if place is None:
        raise InvalidCarError("not a car of the plan")
    return place


def car_at(plan, place):
    """The car at a place."""
    tree = tree_of(plan)
    check_number(place, tree[3] - 1)
    return car_in(tree, place)


def walk_cars(plan, first=0):
    """Yield the cars of the order from the place first on."""
    tree = tree_of(plan)
    check_number(first, tree[3])
    for place in range(first, tree[3]):
        yield car_in(tree, place)


def cars_within(plan, count):
    """The ascending list of (name, number): how many of the first cars are from each lane."""
    tree = tree_of(plan)
    check_number(count, tree[3])
    found = []
    waiting = [(tree, count)]
    while waiting:
        part, many = waiting.pop()
        if part[0] == "lane":
            found.append((part[1], many))
        else:
            ahead = from_one(part, many)
            waiting.append((part[1], ahead))
            waiting.append((part[2], many - ahead))
    return sorted(found)


def ends_of(plan):
    """The ascending list of (place, name) for the last cars of all lanes that are not empty."""
    ways = ways_of(tree_of(plan))
    return sorted([(place_on(path, lane[3] - 1), lane[1]) for lane, path in ways if lane[3] > 0])


def pieces_of(plan, name):
    """The ascending list of (number, place, step) for the cars of a lane that begin a piece."""
    return pieces_on_way(way_to(plan, name))


def pieces_on_way(way):
    """The pieces of a lane on its way."""
    lane, path = way
    first, many = lane[2], lane[3]
    if many < 2:
        return [(first, place_on(path, 0), 0)] if many == 1 else []
    steps = [(0, 1)]
    place = 0
    for merge in path:
        kind, side, other = merge
        if kind == "zip":
            steps = steps_behind(steps, place, other - side + 1, many - 1)
        place = place_on([merge], place)
    found = []
    reached, step = 0, 0
    for at, shorter in steps:
        place = place + (at - reached) * step
        found.append((first + at, place, shorter))
        reached, step = at, shorter
    return found


def steps_behind(steps, place, turn, last):
    """The list of (at, step) for the pieces of a lane behind a zip, given those ahead of it.

    The zip doubles the distances between the numbers up to the turn, and keeps those from it
    on. So it leaves the pieces behind the turn as they are, and parts the one around it.
    The first car has the number place ahead of the zip, the last one is car number last.
    """
    found = []
    for index, (at, step) in enumerate(steps):
        if place >= turn:
            return found + steps[index:]
        end = steps[index + 1][0] if index + 1 < len(steps) else last
        doubled = min(end - at, (turn - place) // step)
        if doubled > 0:
            found.append((at, 2 * step))
        at, place = at + doubled, place + doubled * step
        if at < end and place < turn:
            found.append((at, step + turn - place))
            at, place = at + 1, place + step
        if at < end:
            found.append((at, step))
    return found


def numbers_apart(way, other):
    """The numbers of the cars of a lane of two plans that can be the first difference of their orders.

    Ahead of the first difference all cars have the same places. So if the car that the first
    plan has there is in the lane, then the lane begins with it, the other one ended ahead of it,
    or it comes sooner than in the other plan, for the step behind the car ahead of it got less.
    If the first plan has no car there, the lane of the other car ended ahead of it or was empty.
    """
    found = [piece[0] + 1 for piece in pieces_on_way(way)]
    for lane in [way[0], other[0]]:
        found.extend([lane[2], lane[2] + lane[3]])
    return sorted(set(found))


def places_apart(way, other):
    """Places at which just one of two plans has a certain car of a lane, the first difference among them."""
    # Most lanes of plans that are compared are alike, and this is told far sooner.
    if way == other:
        return []
    found = []
    for number in numbers_apart(way, other):
        place, match = place_on_way(way, number), place_on_way(other, number)
        if place != match:
            found.extend([apart for apart in [place, match] if apart is not None])
    return found


def ways_by_name(plan):
    """A dict of the ways of all lanes by their names."""
    return {way[0][1]: way for way in ways_of(tree_of(plan))}


def first_difference(one, two):
    """The least place at which the orders of two plans differ; None if they are equal."""
    ways, others = ways_by_name(one), ways_by_name(two)
    found = []
    for name in sorted(set([*ways, *others])):
        nothing = (("lane", name, 0, 0), [])
        found.extend(places_apart(ways.get(name, nothing), others.get(name, nothing)))
    return min(found, default=None)
