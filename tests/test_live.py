"""[3], [4], [5], [24], [25], [26]: live roads, what they keep, and what they revert."""

import itertools
import random
import unittest

from brute import FAR, P, Always, SlowRoad, chain, drawn_plan, drawn_plans, lane, lane_name, lanes_in, order_of
from wrong import NO_CARS, NO_INTEGERS, NO_NAMES, NO_PLANS, WrongCalls
from ziplanes.errors import (
    EmptyHistoryError, InvalidCarError, InvalidNameError, InvalidNumberError, InvalidPlanError,
)
from ziplanes.live import CountingRoad, LiveRoad, LoggedCountingRoad, LoggedRoad
from ziplanes.plans import is_plan, lanes_of, rest_after, size_of
from ziplanes.roads import Lane, Road

GREAT = 10 ** 30
KINDS = [LiveRoad, LoggedRoad, CountingRoad, LoggedCountingRoad]


class OddRoad(LoggedRoad):
    """A class below LoggedRoad that the program does not know."""


def kept_by(live):
    """All that a live road tells of itself."""
    told = [live.plan, live.gone, len(live), live.report()]
    if isinstance(live, LoggedRoad):
        told.append(live.log)
    if isinstance(live, CountingRoad):
        told.append(live.counts)
    return told


def told_by(slow, kind):
    """The same of the road that is followed car by car."""
    plan, gone, log, counts = slow.states[-1]
    report = [f"left {len(order_of(plan))}", f"gone {gone}"]
    if issubclass(kind, CountingRoad):
        report.append(f"lanes {sum(many > 0 for many in counts.values())}")
    if issubclass(kind, LoggedRoad):
        report.append(f"logged {len(log)}")
    told = [plan, gone, len(slow.states) - 1, report]
    if issubclass(kind, LoggedRoad):
        told.append(log)
    if issubclass(kind, CountingRoad):
        told.append(sorted(counts.items()))
    return told


def call_both(source, live, slow):
    """One call drawn from a seeded source, of a live road and of the one that is followed car by car."""
    plan = slow.states[-1][0]
    size = len(order_of(plan))
    count = min(size, source.choice([0, 1, 1, 1, 2, 3, 5, size]))
    word = source.choice(["go", "go", "skip", "arrive", "undo", "undo"])
    if word == "go":
        told, cars = live.go(count), slow.leave(count, True)
        return told == cars
    if word == "skip":
        slow.leave(count, False)
        return live.skip(count) is None
    if word == "arrive":
        name, many = source.choice(lanes_in(plan))[1], source.choice([0, 1, 2, 5])
        slow.arrive(name, many)
        return live.arrive(name, many) is None
    if len(slow.states) > 1:
        slow.undo()
        return live.undo() is None
    try:
        live.undo()
    except EmptyHistoryError:
        return True
    return False


def refused(live):
    """Calls that a live road refuses, whatever is left, with their errors."""
    left = size_of(live.plan)
    numbers = NO_INTEGERS + [left + 1, 10 ** 33]
    calls = [(InvalidNumberError, function, (number,)) for function in [live.go, live.peek, live.skip] for number in numbers]
    calls += [(InvalidNumberError, live.go, (101,)), (InvalidNumberError, live.peek, (101,))]
    if left == 0:
        calls += [(InvalidNumberError, live.go, ()), (InvalidNumberError, live.peek, ())]
    name = lanes_of(live.plan)[0][1]
    calls += [(InvalidNameError, live.arrive, (wrong, many)) for wrong in NO_NAMES + ["xyz"] for many in [1, -1, None]]
    calls += [(InvalidNumberError, live.arrive, (name, many)) for many in NO_INTEGERS + [GREAT + 1]]
    calls += [(InvalidCarError, live.ahead_of, (car,)) for car in NO_CARS + [("xyz", 0), (name, 10 ** 33)]]
    return calls


class CarByCar(WrongCalls):
    def check(self, live, slow):
        self.assertEqual(kept_by(live), told_by(slow, type(live)))
        order = order_of(live.plan)
        for count in range(min(len(order), 3) + 1):
            self.assertEqual(live.peek(count), order[:count])
        if order:
            self.assertEqual(live.peek(), order[:1])
        for at, car in enumerate(order):
            self.assertEqual(live.ahead_of(car), at)

    def test_drawn_calls(self):
        source = random.Random(81)
        for kind in KINDS:
            for _ in range(30):
                plan = drawn_plan(source)
                live, slow = kind(plan), SlowRoad(plan)
                for _ in range(25):
                    self.assertTrue(call_both(source, live, slow))
                    self.check(live, slow)

    def test_all_undone(self):
        source = random.Random(82)
        for kind in KINDS:
            for _ in range(20):
                plan = drawn_plan(source)
                live, slow = kind(plan), SlowRoad(plan)
                for _ in range(15):
                    call_both(source, live, slow)
                while len(live) > 0:
                    self.assertIsNone(live.undo())
                    slow.undo()
                    self.check(live, slow)
                self.assertEqual(live, kind(plan))
                self.wrong(EmptyHistoryError, live.undo)

    def test_a_twin_goes_on_alone(self):
        source = random.Random(83)
        for kind in KINDS + [OddRoad]:
            for _ in range(20):
                plan = drawn_plan(source)
                live, slow = kind(plan), SlowRoad(plan)
                for _ in range(8):
                    call_both(source, live, slow)
                twin, other = live.twin(), SlowRoad(plan)
                other.states = list(slow.states)
                self.assertIs(type(twin), kind)
                self.assertEqual(twin, live)
                for _ in range(10):
                    call_both(source, *source.choice([(live, slow), (twin, other)]))
                    self.check(live, slow)
                    self.check(twin, other)

    def test_refused_calls(self):
        source = random.Random(84)
        for kind in KINDS:
            for _ in range(8):
                plan = drawn_plan(source)
                live, slow = kind(plan), SlowRoad(plan)
                for _ in range(4):
                    call_both(source, live, slow)
                    for error, function, arguments in refused(live):
                        self.wrong(error, function, *arguments)
                    self.check(live, slow)


class Calls(WrongCalls):
    def test_wrong_plans(self):
        for kind in KINDS:
            for value in NO_PLANS + ["a3", Lane("a", 3), Road(P), LiveRoad(P)]:
                self.wrong(InvalidPlanError, kind, value)

    def test_at_the_beginning(self):
        for kind in KINDS:
            live = kind(plan=P)
            self.assertEqual([live.plan, live.gone, len(live)], [P, 0, 0])
            self.assertEqual(live.report()[:2], ["left 9", "gone 0"])
        live = LoggedCountingRoad(P)
        self.assertEqual([live.log, live.counts], [[], [("a", 0), ("b", 0), ("c", 0)]])
        self.assertEqual(live.report(), ["left 9", "gone 0", "lanes 0", "logged 0"])

    def test_no_car_left(self):
        for plan in [lane("a", 0, 5), ("zip", lane("a", 0), lane("b", 0))]:
            live = LoggedCountingRoad(plan)
            for function in [live.go, live.peek, live.skip]:
                self.wrong(InvalidNumberError, function, 1)
            for function in [live.go, live.peek]:
                self.wrong(InvalidNumberError, function)
                self.wrong(InvalidNumberError, function, count=1)
            self.assertEqual(kept_by(live), kept_by(LoggedCountingRoad(plan)))
            self.assertEqual([live.go(0), live.peek(0), live.skip(0)], [[], [], None])
            self.assertEqual([live.plan, len(live), live.gone], [plan, 2, 0])

    def test_100_and_101(self):
        live = LoggedRoad(FAR)
        for function in [live.go, live.peek]:
            self.wrong(InvalidNumberError, function, 101)
        self.assertEqual(len(live), 0)
        order = order_of(("zip", lane("a", 200), ("zip", lane("b", 5), lane("c", 200))))[:200]
        self.assertEqual(live.peek(100), order[:100])
        self.assertEqual(live.go(100), order[:100])
        self.assertEqual(live.go(count=100), order[100:])
        self.assertEqual([live.gone, live.log], [200, order])
        short = LiveRoad(lane("a", 99))
        for function in [short.go, short.peek]:
            self.wrong(InvalidNumberError, function, 100)
        self.assertEqual(len(short.go(99)), 99)

    def test_skip_has_no_limit_but_the_cars(self):
        live = LoggedCountingRoad(FAR)
        size = size_of(FAR)
        self.assertIsNone(live.skip(count=101))
        self.assertIsNone(live.skip(size - 101))
        self.assertEqual([live.gone, size_of(live.plan), live.log], [size, 0, []])
        self.assertEqual(live.counts, [("a", GREAT), ("b", 5), ("c", 10 ** 20)])
        self.assertEqual(live.report(), ["left 0", f"gone {size}", "lanes 3", "logged 0"])
        self.wrong(InvalidNumberError, live.skip, 1)
        live.undo()
        self.assertEqual(live.gone, 101)

    def test_skip_0_and_go_0_and_0_arrive(self):
        live = LoggedCountingRoad(P)
        live.go(2)
        kept = live.plan
        live.skip(0)
        self.assertEqual(live.go(0), [])
        live.arrive("a", 0)
        self.assertEqual([live.plan, len(live), live.gone], [kept, 4, 2])
        for calls in [3, 2, 1]:
            live.undo()
            self.assertEqual([live.plan, len(live), live.gone], [kept, calls, 2])
        live.undo()
        self.assertEqual(live, LoggedCountingRoad(P))

    def test_peek_is_no_call(self):
        live = LoggedCountingRoad(P)
        live.go(1)
        kept = kept_by(live)
        for count in range(9):
            live.peek(count)
            live.ahead_of(("b", 0))
            live.twin()
        self.assertEqual(kept_by(live), kept)

    def test_nothing_to_undo(self):
        for kind in KINDS:
            live = kind(P)
            for _ in range(2):
                self.wrong(EmptyHistoryError, live.undo)
            live.go(3)
            self.assertIsNone(live.undo())
            self.wrong(EmptyHistoryError, live.undo)
            self.assertEqual(kept_by(live), kept_by(kind(P)))
            self.assertEqual(live.go(3), order_of(P)[:3])

    def test_empty_lanes_get_cars_again(self):
        live = LoggedCountingRoad(("zip", lane("a", 1), lane("b", 0, 4)))
        live.go()
        self.assertEqual(live.plan, ("zip", lane("b", 0, 4), lane("a", 0, 1)))
        self.assertIsNone(live.arrive(many=2, name="a"))
        live.arrive("b", 1)
        self.assertEqual(live.plan, ("zip", lane("b", 1, 4), lane("a", 2, 1)))
        self.assertEqual(live.go(3), [("b", 4), ("a", 1), ("a", 2)])
        self.assertEqual(live.counts, [("a", 3), ("b", 1)])
        live.arrive("a", GREAT)
        self.assertEqual([live.peek(), live.ahead_of(("a", GREAT + 2))], [[("a", 3)], GREAT - 1])

    def test_great_arrivals(self):
        live = LiveRoad(P)
        for _ in range(10):
            live.arrive("c", GREAT)
        self.assertEqual(live.plan, ("zip", lane("a", 3), ("zip", lane("b", 2), lane("c", 10 * GREAT + 4))))
        live.skip(10 * GREAT + 9)
        self.assertEqual([live.gone, size_of(live.plan)], [10 * GREAT + 9, 0])
        self.assertTrue(is_plan(live.plan))

    def test_cars_that_have_left(self):
        live = LiveRoad(P)
        live.go(4)
        for car in [("a", 0), ("b", 0), ("a", 1), ("c", 0)]:
            self.wrong(InvalidCarError, live.ahead_of, car)
        self.assertEqual([live.ahead_of(car=car) for car in live.peek(5)], list(range(5)))
        live.undo()
        self.assertEqual(live.ahead_of(("c", 0)), 3)

    def test_what_is_left(self):
        for plan in drawn_plans(85, 60):
            size = size_of(plan)
            for count in range(size + 1):
                live = LiveRoad(plan)
                live.skip(count)
                self.assertEqual(live.plan, rest_after(plan, count))
                parts = LiveRoad(plan)
                for _ in range(count):
                    parts.go()
                self.assertEqual(parts.plan, rest_after(plan, count))
                self.assertEqual(parts, live)

    def test_300_calls_and_as_many_undos(self):
        plan = chain(40, GREAT)
        live = LoggedCountingRoad(plan)
        source = random.Random(86)
        kept = []
        for at in range(300):
            kept.append(live.twin())
            if at % 3 == 0:
                live.go(source.choice([0, 1, 7, 100]))
            elif at % 3 == 1:
                live.arrive(lane_name(source.randrange(40)), GREAT)
            else:
                live.skip(source.randrange(10 ** 28))
        self.assertEqual(len(live), 300)
        self.assertEqual(sum(many for _, many in live.counts), live.gone)
        self.assertEqual(size_of(live.plan) + live.gone, 140 * GREAT)
        for at in range(299, -1, -1):
            live.undo()
            self.assertEqual(len(live), at)
            if at % 20 == 0:
                self.assertEqual(kept_by(live), kept_by(kept[at]))
                self.assertEqual(live, kept[at])
        self.assertEqual(live, LoggedCountingRoad(plan))
        self.wrong(EmptyHistoryError, live.undo)

    def test_arguments_do_not_change(self):
        plan = ("zip", lane("a", 3), lane("b", 2))
        live = LiveRoad(plan)
        live.go(3)
        live.arrive("a", 1)
        self.assertEqual(plan, ("zip", lane("a", 3), lane("b", 2)))


class Equal(unittest.TestCase):
    def equal(self, one, two, answer):
        self.assertIs(one == two, answer)
        self.assertIs(two == one, answer)
        self.assertIs(one != two, not answer)

    def test_whatever_the_calls_were(self):
        for kind in KINDS:
            one, two = kind(P), kind(P)
            one.go(2)
            two.go()
            two.arrive("a", 0)
            two.go()
            self.equal(one, two, True)
            self.assertNotEqual(len(one), len(two))
            self.equal(one, kind(P), False)
            one.undo()
            self.equal(one, kind(P), True)

    def test_classes(self):
        for one, two in itertools.combinations(KINDS + [OddRoad], 2):
            self.equal(one(P), two(P), False)
        self.equal(OddRoad(P), OddRoad(P), True)

    def test_gone(self):
        for kind in KINDS:
            gone = kind(lane("a", 3))
            gone.skip(1)
            self.equal(gone, kind(lane("a", 2, 1)), False)
            gone.undo()
            self.equal(gone, kind(lane("a", 3)), True)

    def test_plans(self):
        for kind in KINDS:
            one, two = kind(P), kind(P)
            one.arrive("c", 1)
            self.equal(one, two, False)
            two.arrive("c", 1)
            self.equal(one, two, True)

    def test_logs(self):
        for kind in KINDS:
            one, two = kind(P), kind(P)
            one.go(2)
            two.skip(2)
            self.equal(one, two, not issubclass(kind, LoggedRoad))
            one.undo()
            one.skip(2)
            self.equal(one, two, True)

    def test_counts(self):
        for kind in KINDS:
            one = kind(("then", lane("a", 1), lane("b", 2, 1)))
            two = kind(("then", lane("a", 0, 1), lane("b", 3)))
            one.skip(1)
            two.skip(1)
            self.assertEqual([one.plan, one.gone], [two.plan, two.gone])
            self.equal(one, two, not issubclass(kind, CountingRoad))

    def test_other_values(self):
        for kind in KINDS:
            for value in [None, True, 0, "a3", P, [P, 0], Road(P), object(), kind]:
                self.equal(kind(P), value, False)
            self.assertIs(kind(P) == Always(), False)


class Kept(unittest.TestCase):
    def test_classes(self):
        self.assertTrue(issubclass(LoggedCountingRoad, LoggedRoad) and issubclass(LoggedCountingRoad, CountingRoad))
        self.assertTrue(issubclass(LoggedRoad, LiveRoad) and issubclass(CountingRoad, LiveRoad))
        self.assertFalse(issubclass(LoggedRoad, CountingRoad) or issubclass(CountingRoad, LoggedRoad))
        self.assertFalse(hasattr(CountingRoad(P), "log") or hasattr(LoggedRoad(P), "counts"))
        self.assertFalse(hasattr(LiveRoad(P), "log") or hasattr(LiveRoad(P), "counts"))

    def test_reports(self):
        reports = []
        for kind in KINDS:
            live = kind(P)
            live.go(3)
            live.skip(2)
            live.arrive("a", 1)
            reports.append(live.report())
        self.assertEqual(reports, [
            ["left 5", "gone 5"], ["left 5", "gone 5", "logged 3"], ["left 5", "gone 5", "lanes 3"],
            ["left 5", "gone 5", "lanes 3", "logged 3"],
        ])

    def test_log(self):
        live = LoggedRoad(P)
        live.go(2)
        live.skip(1)
        live.go(1)
        self.assertEqual(live.log, [("a", 0), ("b", 0), ("c", 0)])
        live.undo()
        self.assertEqual(live.log, [("a", 0), ("b", 0)])
        live.undo()
        self.assertEqual(live.log, [("a", 0), ("b", 0)])
        live.undo()
        self.assertEqual(live.log, [])

    def test_counts(self):
        live = CountingRoad(("then", lane("z", 2, 9), ("zip", lane("b", 1, 5), lane("a", 3, GREAT))))
        self.assertEqual(live.counts, [("a", 0), ("b", 0), ("z", 0)])
        live.skip(1)
        live.go(3)
        live.arrive("b", 7)
        self.assertEqual(live.counts, [("a", 1), ("b", 1), ("z", 2)])
        self.assertEqual(live.report(), ["left 9", "gone 4", "lanes 3"])
        live.undo()
        live.undo()
        self.assertEqual(live.counts, [("a", 0), ("b", 0), ("z", 1)])
        self.assertEqual(live.report(), ["left 5", "gone 1", "lanes 1"])

    def test_new_lists(self):
        live = LoggedCountingRoad(P)
        cars = live.go(3)
        cars.clear()
        for get in [lambda: live.log, lambda: live.counts, lambda: live.peek(3), live.report]:
            first = get()
            self.assertIs(type(first), list)
            kept = list(first)
            self.assertGreater(len(kept), 0)
            first.clear()
            self.assertEqual(get(), kept)
            self.assertIsNot(get(), get())
        twin = live.twin()
        twin.log.clear()
        self.assertEqual(live.log, order_of(P)[:3])
        self.assertEqual(twin, live)

    def test_nothing_is_assigned(self):
        live = LoggedCountingRoad(P)
        for name in ["plan", "gone", "log", "counts"]:
            with self.assertRaises(AttributeError):
                setattr(live, name, None)


if __name__ == "__main__":
    unittest.main()
