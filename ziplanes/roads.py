"""Roads: objects with a plan that never change, and their operators."""

from ziplanes.errors import InvalidNameError, InvalidRoadError, SameNameError, TooManyError
from ziplanes.places import car_at, find_place, walk_cars
from ziplanes.plans import lanes_of, rest_after, size_of
from ziplanes.text import parse_plan
from ziplanes.trees import check_number, is_car, is_name

MOST_IN_LANE = 10 ** 30


class Road:
    """A road with a plan."""

    MOST = 40

    def __init__(self, plan):
        self._lanes = lanes_of(plan)
        self._plan = plan

    @classmethod
    def read(cls, text):
        """The road with the plan of a string; a Road, also if it is called on a subclass."""
        return Road(parse_plan(text))

    @staticmethod
    def is_car(value):
        """Whether any value is a tuple of a name and an integer from 0 on."""
        return is_car(value)

    @property
    def plan(self):
        """The plan."""
        return self._plan

    @property
    def size(self):
        """The number of the cars."""
        return size_of(self._plan)

    @property
    def names(self):
        """The list of the names of the lanes from left to right."""
        return [lane[1] for lane in self._lanes]

    def rest(self, count):
        """The road that is left when the first cars have left."""
        return Road(rest_after(self._plan, count))

    def cars(self, first=0):
        """Yield the cars from the place first on."""
        yield from walk_cars(self._plan, first)

    def told(self):
        """The list of strings that tell of the road."""
        return [f"cars {self.size}", f"lanes {len(self._lanes)}"]

    def __add__(self, other):
        return Zip(self, other)

    def __rshift__(self, other):
        return Then(self, other)

    def __contains__(self, value):
        return find_place(self._plan, value) is not None

    def __call__(self, place):
        return car_at(self._plan, place)

    def __len__(self):
        return len(self._lanes)

    def __eq__(self, other):
        return isinstance(other, Road) and self._plan == other._plan


class Lane(Road):
    """A road with one lane."""

    def __init__(self, name, many, first=0):
        if not is_name(name):
            raise InvalidNameError("not the name of a lane")
        check_number(many, MOST_IN_LANE)
        check_number(first, MOST_IN_LANE)
        super().__init__(("lane", name, first, many))
        self._name = name

    @property
    def name(self):
        """The name of the lane."""
        return self._name

    def told(self):
        """The list of strings that tell of the road."""
        return super().told() + [f"lane {self._name}"]


def check_sides(one, two):
    """Raise an error unless two values are roads that can be merged."""
    if not isinstance(one, Road) or not isinstance(two, Road):
        raise InvalidRoadError("not two roads")
    names = two.names
    if any([name in names for name in one.names]):
        raise SameNameError("a name occurs in both roads")
    if len(one) + len(two) > Road.MOST:
        raise TooManyError("too many lanes")


class Zip(Road):
    """A road with the zip of the plans of two roads."""

    def __init__(self, one, two):
        check_sides(one, two)
        super().__init__(("zip", one.plan, two.plan))
        self._sides = (one, two)

    @property
    def sides(self):
        """The tuple of the two roads."""
        return self._sides

    def told(self):
        """The list of strings that tell of the road."""
        return super().told() + ["zip"]


class Then(Road):
    """A road with the then of the plans of two roads."""

    def __init__(self, one, two):
        check_sides(one, two)
        super().__init__(("then", one.plan, two.plan))
        self._sides = (one, two)

    @property
    def sides(self):
        """The tuple of the two roads."""
        return self._sides

    def told(self):
        """The list of strings that tell of the road."""
        return super().told() + ["then"]
