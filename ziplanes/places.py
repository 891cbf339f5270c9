"""Places: where cars leave, which car leaves where, and where two plans differ."""

from ziplanes.errors import InvalidCarError
from ziplanes.plans import tree_of, way_to
from ziplanes.trees import bends_on, car_in, check_number, count_on, is_car, place_on, ways_of


def place_on_way(way, number):
    """The place of the car with this number in its name; None if the lane does not have it."""
    lane, path = way
    at = number - lane[2]
    return place_on(path, at) if 0 <= at < lane[3] else None


def place_in(tree, car):
    """The place of a car in a tree; InvalidCarError if it is not a car of it."""
    if is_car(car):
        for way in ways_of(tree):
            place = place_on_way(way, car[1])
            if way[0][1] == car[0] and place is not None:
                return place
    raise InvalidCarError("not a car of the plan")


def place_of(plan, car):
    """The place of a car."""
    return place_in(tree_of(plan), car)


def car_at(plan, place):
    """The car at a place."""
    tree = tree_of(plan)
    check_number(place, tree[3] - 1)
    return car_in(tree, place)


def walk_cars(plan, first=0):
    """Yield the cars of the order from the place first on."""
    tree = tree_of(plan)
    check_number(first, tree[3])
    for place in range(first, tree[3]):
        yield car_in(tree, place)


def cars_within(plan, count):
    """The ascending list of (name, number): how many of the first cars are from each lane."""
    tree = tree_of(plan)
    check_number(count, tree[3])
    return sorted([(lane[1], min(lane[3], count_on(path, count))) for lane, path in ways_of(tree)])


def ends_of(plan):
    """The ascending list of (place, name) for the last cars of all lanes that are not empty."""
    ways = ways_of(tree_of(plan))
    return sorted([(place_on(path, lane[3] - 1), lane[1]) for lane, path in ways if lane[3] > 0])


def pieces_of(plan, name):
    """The ascending list of (number, place, step) for the cars of a lane that begin a piece."""
    return pieces_on_way(way_to(tree_of(plan), name))


def pieces_on_way(way):
    """The pieces of a lane on its way."""
    lane, path = way
    first, many = lane[2], lane[3]
    if many == 1:
        return [(first, place_on(path, 0), 0)]
    found = []
    for at in bends_on(path, many):
        place = place_on(path, at)
        step = place_on(path, at + 1) - place
        if at == 0 or step != place - place_on(path, at - 1):
            found.append((first + at, place, step))
    return found


def marks_of(way, other):
    """Car numbers, among them the first one of a lane that has another place on the other way.

    While neither way bends, two lanes whose last two cars agree go on in the same steps. So
    they part at the first car, behind a bend, or where the other lane has no more cars.
    """
    found = [way[0][2], other[0][2] + other[0][3]]
    for lane, path in [way, other]:
        found.extend([lane[2] + at + 1 for at in bends_on(path, lane[3])])
    return found


def places_missed(ways, others):
    """Places of cars that the other plan does not have there, the least one of each lane among them."""
    by_name = {way[0][1]: way for way in others}
    found = []
    for way in ways:
        name = way[0][1]
        other = by_name.get(name, (("lane", name, 0, 0), []))
        for number in marks_of(way, other):
            place = place_on_way(way, number)
            if place is not None and place_on_way(other, number) != place:
                found.append(place)
    return found


def first_difference(one, two):
    """The least place at which the orders of two plans differ; None if they are equal."""
    ways, others = ways_of(tree_of(one)), ways_of(tree_of(two))
    # Both directions: where one order ends, only the other one has a car.
    found = places_missed(ways, others) + places_missed(others, ways)
    return min(found) if found else None
