"""[3], [4], [5]: error classes, and which error wrong arguments raise."""

import unittest

from brute import FAR, P, Always, chain, lane
from ziplanes import errors
from ziplanes.errors import InvalidCarError, InvalidNameError, InvalidNumberError, InvalidPlanError, LaneError
from ziplanes.places import (
    car_at, cars_within, ends_of, first_difference, pieces_of, place_of, walk_cars,
)
from ziplanes.plans import joined, lanes_of, path_of, rest_after, size_of

NAMES = [
    "InvalidPlanError", "InvalidCarError", "InvalidNameError", "InvalidNumberError", "InvalidRowError",
    "InvalidLabelsError", "InvalidShapeError", "InvalidRoadError", "InvalidFormatError", "SameNameError",
    "TooManyError", "EmptyHistoryError",
]

NO_PLANS = [
    None, True, 0, "lane", b"lane", (), [], {}, object(), Always(), len, 1.5,
    ["lane", "a", 0, 3], ("lane", "a", True, 3), ("lane", "a", 0, False), ("lane", "a", -1, 3), ("lane", "a", 0, -1),
    ("lane", "A", 0, 3), ("zip", lane("a", 1), lane("a", 2)), ("zip", lane("a", 1)), list(P), chain(41, 1),
]
NO_NAMES = ["d", "", "A", "ab", b"a", None, 0, True, ["a"], ("a",), {"a": 1}, Always(), lane("a", 3)]
NO_CARS = [
    ("a", 3), ("a", -1), ("d", 0), ("b", 2), ("a", True), ("a", False), ("a", "0"), ("a", 0.0), ["a", 0], ("a",),
    ("a", 0, 0), (0, "a"), (["a"], 0), "a0", None, 0, (), Always(), (Always(), 0), ("a", None), {"a": 0},
]
NO_INTEGERS = [True, False, None, "1", b"1", 1.0, [1], (1,), (), {}, Always(), -1]


def calls_of_plan():
    """Each function with a plan first, with whatever behind it that may be wrong too."""
    return [
        (size_of, ()), (lanes_of, ()), (path_of, (7,)), (joined, (7, -1)), (rest_after, (-1,)),
        (place_of, (7,)), (car_at, (-1,)), (cars_within, (-1,)), (ends_of, ()), (pieces_of, (7,)),
        (walked, (-1,)), (first_difference, (P,)), (first_difference, (7,)),
    ]


def walked(*arguments, **more):
    return list(walk_cars(*arguments, **more))


class ErrorClasses(unittest.TestCase):
    def test_bases(self):
        self.assertEqual(LaneError.__bases__, (ValueError,))
        for name in NAMES:
            with self.subTest(name=name):
                self.assertEqual(getattr(errors, name).__bases__, (LaneError,))

    def test_constructed_with_one_string(self):
        for name in ["LaneError"] + NAMES:
            with self.subTest(name=name):
                self.assertEqual(str(getattr(errors, name)("why not")), "why not")

    def test_defined_there(self):
        for name in ["LaneError"] + NAMES:
            self.assertEqual(getattr(errors, name).__module__, "ziplanes.errors")


class WrongArguments(unittest.TestCase):
    def wrong(self, error, function, *arguments, **more):
        with self.subTest(function=function.__name__, arguments=arguments, more=more):
            with self.assertRaises(error) as caught:
                function(*arguments, **more)
            self.assertIs(type(caught.exception), error)

    def test_plan_is_checked_first(self):
        for function, rest in calls_of_plan():
            for value in NO_PLANS:
                self.wrong(InvalidPlanError, function, value, *rest)

    def test_second_plan(self):
        for value in NO_PLANS:
            self.wrong(InvalidPlanError, first_difference, P, value)
            self.wrong(InvalidPlanError, first_difference, one=P, two=value)

    def test_name(self):
        for name in NO_NAMES:
            self.wrong(InvalidNameError, path_of, P, name)
            self.wrong(InvalidNameError, pieces_of, P, name)
            self.wrong(InvalidNameError, joined, P, name, 1)
            for many in NO_INTEGERS:
                self.wrong(InvalidNameError, joined, P, name, many)

    def test_car(self):
        for car in NO_CARS:
            self.wrong(InvalidCarError, place_of, P, car)
        shifted = ("then", lane("a", 2, 5), lane("b", 0, 7))
        for car in [("a", 4), ("a", 7), ("a", 0), ("b", 7), ("b", 0)]:
            self.wrong(InvalidCarError, place_of, shifted, car)
        self.assertEqual(place_of(shifted, ("a", 6)), 1)

    def test_many(self):
        for many in NO_INTEGERS + [10 ** 30 + 1]:
            self.wrong(InvalidNumberError, joined, P, "a", many)
        self.assertEqual(joined(P, "a", 10 ** 30)[1], lane("a", 10 ** 30 + 3))
        self.assertEqual(joined(P, "a", 0), P)

    def test_place(self):
        for place in NO_INTEGERS + [9, 10, 10 ** 30]:
            self.wrong(InvalidNumberError, car_at, P, place)
        self.wrong(InvalidNumberError, car_at, lane("a", 0), 0)
        self.wrong(InvalidNumberError, car_at, FAR, 10 ** 30 + 5 + 10 ** 20)

    def test_count_and_first(self):
        for function in [rest_after, cars_within, walked]:
            for count in NO_INTEGERS + [10, 10 ** 30]:
                self.wrong(InvalidNumberError, function, P, count)
            self.wrong(InvalidNumberError, function, lane("a", 0), 1)
            function(P, 9)
            function(lane("a", 0), 0)

    def test_all_are_value_errors(self):
        with self.assertRaises(ValueError):
            size_of(None)
        with self.assertRaises(LaneError):
            size_of(None)

    def test_an_error_changes_nothing(self):
        broken = [["lane", "a", 0, 3], "b"]
        car = ["a", 0]
        for function, value in [(size_of, broken), (ends_of, broken)]:
            self.wrong(InvalidPlanError, function, value)
        self.wrong(InvalidCarError, place_of, P, car)
        self.assertEqual(broken, [["lane", "a", 0, 3], "b"])
        self.assertEqual(car, ["a", 0])
        self.assertEqual(P, ("zip", lane("a", 3), ("zip", lane("b", 2), lane("c", 4))))


class Parameters(unittest.TestCase):
    def test_by_name(self):
        self.assertEqual(size_of(plan=P), 9)
        self.assertEqual(lanes_of(plan=P), [lane("a", 3), lane("b", 2), lane("c", 4)])
        self.assertEqual(path_of(name="a", plan=P), [("zip", 1, 6)])
        self.assertEqual(joined(many=1, name="b", plan=P)[2][1], lane("b", 3))
        self.assertEqual(rest_after(count=9, plan=P), rest_after(P, 9))
        self.assertEqual(place_of(car=("c", 1), plan=P), 6)
        self.assertEqual(car_at(place=5, plan=P), ("b", 1))
        self.assertEqual(list(walk_cars(first=8, plan=P)), [("c", 3)])
        self.assertEqual(cars_within(count=4, plan=P), [("a", 2), ("b", 1), ("c", 1)])
        self.assertEqual(ends_of(plan=P), [(4, "a"), (5, "b"), (8, "c")])
        self.assertEqual(pieces_of(name="a", plan=P), [(0, 0, 2)])
        self.assertEqual(first_difference(two=FAR, one=P), 6)


if __name__ == "__main__":
    unittest.main()
