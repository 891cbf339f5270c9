"""Live roads: junctions at which cars leave and arrive, call by call.

A live road keeps all calls that can be undone. What its subclasses tell beyond it can
be told from these and from the plan at the beginning, so that they keep nothing else;
each of them has a constructor of its own because the interface lists one.
"""

from ziplanes.errors import EmptyHistoryError
from ziplanes.places import place_of
from ziplanes.plans import check_plan, joined, lanes_of, rest_after, size_of, tree_of
from ziplanes.trees import car_in, check_number

MOST_AT_ONCE = 100


class LiveRoad:
    """A junction with a plan."""

    def __init__(self, plan):
        check_plan(plan)
        self._begin = plan
        self._plan = plan
        self._gone = 0
        # For each call the plan and the number of gone cars ahead of it, and the cars that left by go.
        self._calls = []

    @classmethod
    def _begun(cls, plan):
        return cls(plan)

    @property
    def plan(self):
        """The plan that is left."""
        return self._plan

    @property
    def gone(self):
        """The number of the cars that have left."""
        return self._gone

    def _change(self, plan, gone, cars):
        self._calls.append((self._plan, self._gone, tuple(cars)))
        self._plan, self._gone = plan, gone

    def go(self, count=1):
        """Let the next cars leave; the list of them."""
        cars = self.peek(count)
        self._change(rest_after(self._plan, count), self._gone + count, cars)
        return cars

    def peek(self, count=1):
        """The list of the cars that leave next."""
        tree = tree_of(self._plan)
        check_number(count, min(tree[3], MOST_AT_ONCE))
        return [car_in(tree, place) for place in range(count)]

    def skip(self, count):
        """Let the next cars leave."""
        self._change(rest_after(self._plan, count), self._gone + count, [])

    def arrive(self, name, many):
        """Let so many cars join at the end of a lane."""
        self._change(joined(self._plan, name, many), self._gone, [])

    def undo(self):
        """Revert the last call of go, skip or arrive that is not reverted."""
        if len(self._calls) == 0:
            raise EmptyHistoryError("no call to undo")
        self._plan, self._gone, _ = self._calls.pop()

    def ahead_of(self, car):
        """How many cars leave before a car."""
        return place_of(self._plan, car)

    def report(self):
        """The list of strings that tell how many cars are left and have left."""
        return [f"left {size_of(self._plan)}", f"gone {self._gone}"]

    def twin(self):
        """An independent equal live road of the same class with the same calls to undo."""
        other = self._begun(self._begin)
        other._plan = self._plan
        other._gone = self._gone
        other._calls = list(self._calls)
        return other

    def _compared(self):
        return [self._plan, self._gone]

    def __len__(self):
        return len(self._calls)

    def __eq__(self, other):
        return type(self) is type(other) and self._compared() == other._compared()


class LoggedRoad(LiveRoad):
    """A live road with a log of the cars that left by go."""

    def __init__(self, plan):
        super().__init__(plan)

    @property
    def log(self):
        """The list of all cars that left by go."""
        return [car for call in self._calls for car in call[2]]

    def report(self):
        """The list of strings of a live road, and one with the length of the log."""
        return super().report() + [f"logged {len(self.log)}"]

    def _compared(self):
        return super()._compared() + [self.log]


class CountingRoad(LiveRoad):
    """A live road that counts the cars of each lane that have left."""

    def __init__(self, plan):
        super().__init__(plan)

    @property
    def counts(self):
        """The ascending list of (name, number): how many cars of each lane have left."""
        firsts = {lane[1]: lane[2] for lane in lanes_of(self._begin)}
        return sorted([(lane[1], lane[2] - firsts[lane[1]]) for lane in lanes_of(self._plan)])

    def report(self):
        """The list of strings of a live road, and one with the number of the lanes from which cars have left."""
        lanes = [name for name, many in self.counts if many > 0]
        return super().report() + [f"lanes {len(lanes)}"]

    def _compared(self):
        return super()._compared() + [self.counts]


class LoggedCountingRoad(LoggedRoad, CountingRoad):
    """A live road with a log and counts."""

    def __init__(self, plan):
        super().__init__(plan)
