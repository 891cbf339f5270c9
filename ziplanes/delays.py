"""Delays: how much later cars leave if others join at the end of a lane."""

from ziplanes.places import pieces_on_way, place_of
from ziplanes.plans import MOST_JOINING, joined, tree_of, way_to
from ziplanes.trees import car_in, check_number, place_on, ways_of


def delay_of(plan, car, name, many):
    """By how many places a car leaves later if so many cars join at the end of a lane."""
    place = place_of(plan, car)
    return place_of(joined(plan, name, many), car) - place


def first_places(lane, path):
    """For each merge above a lane, the place of the first car of the other side that joining cars delay."""
    found = []
    own = lane[3]
    for height, (kind, side, other) in enumerate(path):
        # As long as the own side has cars, a zip does not tell how many; behind a then, all wait.
        number = own + side - 1 if kind == "zip" else (side - 1) * other
        if number < other:
            found.append(place_on(path[height + 1:], own + number))
        own = own + other
    return found


def first_delayed(plan, name, many):
    """The delayed car with the least place in the plan; None if no car is delayed."""
    lane, path = way_to(plan, name)
    check_number(many, MOST_JOINING)
    places = first_places(lane, path)
    return car_in(tree_of(plan), min(places)) if many > 0 and places else None


def greatest_delay_on(way, later):
    """The greatest delay of the cars of a lane, given its ways without and with the joining cars."""
    lane, path = way
    # From car to car the delay grows by the difference of the two steps, which both descend.
    # So it stops growing only where the later step gets less, or at the last car.
    last = lane[3] - 1
    marks = [(number - lane[2], place) for number, place, _ in pieces_on_way(later)]
    marks.append((last, place_on(later[1], last)))
    return max([place - place_on(path, at) for at, place in marks])


def greatest_delay(plan, name, many):
    """The greatest delay of the cars of a plan; 0 if there are no cars."""
    ways = ways_of(tree_of(plan))
    pairs = list(zip(ways, ways_of(tree_of(joined(plan, name, many)))))
    others = [pair for pair in pairs if pair[0][0][1] != name and pair[0][0][3] > 0]
    return max([0] + [greatest_delay_on(way, later) for way, later in others])
