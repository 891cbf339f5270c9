"""[3], [4], [5]: error classes, and which error wrong arguments raise."""

import unittest

from brute import FAR, P, chain, lane
from ziplanes import errors
from ziplanes.delays import delay_of, first_delayed, greatest_delay
from ziplanes.errors import (
    InvalidCarError, InvalidLabelsError, InvalidNameError, InvalidNumberError, InvalidPlanError, InvalidRowError,
    InvalidShapeError, LaneError,
)
from ziplanes.labels import labels_of, plan_with, plans_with, shape_of
from ziplanes.places import (
    car_at, cars_within, ends_of, first_difference, pieces_of, place_of, walk_cars,
)
from ziplanes.plans import joined, lanes_of, path_of, rest_after, size_of
from ziplanes.rows import (
    count_trees, count_with_place, earliest_place, earliest_tree, latest_place, nth_tree, possible_places, tree_rank,
)
from wrong import (
    LETTERS, NO_CARS_OF_P, NO_INTEGERS, NO_LABELS, NO_NAMES_OF_P, NO_PLANS, NO_ROWS, NO_SHAPES, ROW, WrongCalls,
)

NAMES = [
    "InvalidPlanError", "InvalidCarError", "InvalidNameError", "InvalidNumberError", "InvalidRowError",
    "InvalidLabelsError", "InvalidShapeError", "InvalidRoadError", "InvalidFormatError", "SameNameError",
    "TooManyError", "EmptyHistoryError",
]

def calls_of_plan():
    """Each function with a plan first, with whatever behind it that may be wrong too."""
    return [
        (size_of, ()), (lanes_of, ()), (path_of, (7,)), (joined, (7, -1)), (rest_after, (-1,)),
        (place_of, (7,)), (car_at, (-1,)), (cars_within, (-1,)), (ends_of, ()), (pieces_of, (7,)),
        (walked, (-1,)), (first_difference, (P,)), (first_difference, (7,)),
        (delay_of, (7, 7, -1)), (first_delayed, (7, -1)), (greatest_delay, (7, -1)), (tree_rank, ()),
        (labels_of, (-1,)), (shape_of, ()),
    ]


def calls_of_row():
    """Each function with a row first, with whatever behind it that may be wrong too."""
    return [
        (nth_tree, (-1,)), (earliest_place, (7,)), (latest_place, (7,)), (earliest_tree, (7,)), (possible_places, (7,)),
        (count_with_place, (7, -1)), (count_with_place, (("a", 0), -1)), (count_with_place, (7, 0)),
    ]


def walked(*arguments, **more):
    return list(walk_cars(*arguments, **more))


class ErrorClasses(unittest.TestCase):
    def test_bases(self):
        self.assertEqual(LaneError.__bases__, (ValueError,))
        for name in NAMES:
            with self.subTest(name=name):
                self.assertEqual(getattr(errors, name).__bases__, (LaneError,))

    def test_constructed_with_one_string(self):
        for name in ["LaneError"] + NAMES:
            with self.subTest(name=name):
                self.assertEqual(str(getattr(errors, name)("why not")), "why not")

    def test_defined_there(self):
        for name in ["LaneError"] + NAMES:
            self.assertEqual(getattr(errors, name).__module__, "ziplanes.errors")


class WrongArguments(WrongCalls):
    def test_plan_is_checked_first(self):
        for function, rest in calls_of_plan():
            for value in NO_PLANS:
                self.wrong(InvalidPlanError, function, value, *rest)

    def test_second_plan(self):
        for value in NO_PLANS:
            self.wrong(InvalidPlanError, first_difference, P, value)
            self.wrong(InvalidPlanError, first_difference, one=P, two=value)

    def test_name(self):
        for name in NO_NAMES_OF_P:
            self.wrong(InvalidNameError, path_of, P, name)
            self.wrong(InvalidNameError, pieces_of, P, name)
            self.wrong(InvalidNameError, joined, P, name, 1)
            for many in NO_INTEGERS:
                self.wrong(InvalidNameError, joined, P, name, many)

    def test_car(self):
        for car in NO_CARS_OF_P:
            self.wrong(InvalidCarError, place_of, P, car)
        shifted = ("then", lane("a", 2, 5), lane("b", 0, 7))
        for car in [("a", 4), ("a", 7), ("a", 0), ("b", 7), ("b", 0)]:
            self.wrong(InvalidCarError, place_of, shifted, car)
        self.assertEqual(place_of(shifted, ("a", 6)), 1)

    def test_many(self):
        for many in NO_INTEGERS + [10 ** 30 + 1]:
            self.wrong(InvalidNumberError, joined, P, "a", many)
        self.assertEqual(joined(P, "a", 10 ** 30)[1], lane("a", 10 ** 30 + 3))
        self.assertEqual(joined(P, "a", 0), P)

    def test_place(self):
        for place in NO_INTEGERS + [9, 10, 10 ** 30]:
            self.wrong(InvalidNumberError, car_at, P, place)
        self.wrong(InvalidNumberError, car_at, lane("a", 0), 0)
        self.wrong(InvalidNumberError, car_at, FAR, 10 ** 30 + 5 + 10 ** 20)

    def test_count_and_first(self):
        for function in [rest_after, cars_within, walked]:
            for count in NO_INTEGERS + [10, 10 ** 30]:
                self.wrong(InvalidNumberError, function, P, count)
            self.wrong(InvalidNumberError, function, lane("a", 0), 1)
            function(P, 9)
            function(lane("a", 0), 0)

    def test_delays(self):
        for car in NO_CARS_OF_P:
            self.wrong(InvalidCarError, delay_of, P, car, "a", 1)
            self.wrong(InvalidCarError, delay_of, P, car, "d", -1)
        # Cars that are there only when others have joined are none of the plan.
        self.wrong(InvalidCarError, delay_of, P, ("a", 3), "a", 5)
        for name in NO_NAMES_OF_P:
            self.wrong(InvalidNameError, delay_of, P, ("a", 0), name, 1)
            for function in [first_delayed, greatest_delay]:
                self.wrong(InvalidNameError, function, P, name, 1)
                self.wrong(InvalidNameError, function, P, name, -1)
            self.wrong(InvalidNameError, delay_of, P, ("a", 0), name, True)
        for many in NO_INTEGERS + [10 ** 30 + 1]:
            self.wrong(InvalidNumberError, delay_of, P, ("a", 0), "a", many)
            self.wrong(InvalidNumberError, first_delayed, P, "a", many)
            self.wrong(InvalidNumberError, greatest_delay, P, "a", many)
            self.wrong(InvalidNumberError, greatest_delay, lane("a", 0), "a", many)

    def test_row_is_checked_first(self):
        for function, rest in calls_of_row():
            for value in NO_ROWS:
                self.wrong(InvalidRowError, function, value, *rest)

    def test_cars_of_rows(self):
        for function in [earliest_place, latest_place, earliest_tree, possible_places]:
            for car in NO_CARS_OF_P + [("c", 4)]:
                self.wrong(InvalidCarError, function, ROW, car)
            self.wrong(InvalidCarError, function, [lane("a", 0, 3)], ("a", 3))
            self.wrong(InvalidCarError, function, [lane("a", 2, 3)], ("a", 2))
            self.wrong(InvalidCarError, function, [lane("a", 2, 3)], ("a", 5))
        for car in NO_CARS_OF_P:
            for place in [0, -1, True, None, 9]:
                self.wrong(InvalidCarError, count_with_place, ROW, car, place)

    def test_places_of_rows(self):
        for place in NO_INTEGERS + [9, 10 ** 30]:
            self.wrong(InvalidNumberError, count_with_place, ROW, ("a", 0), place)
        self.wrong(InvalidNumberError, count_with_place, [lane("a", 0), lane("b", 1)], ("b", 0), 1)
        self.assertEqual(count_with_place(ROW, ("c", 3), 8), 1)

    def test_index(self):
        for index in NO_INTEGERS + [2, 10 ** 30]:
            self.wrong(InvalidNumberError, nth_tree, ROW, index)
        self.wrong(InvalidNumberError, nth_tree, [lane("a", 1)], 1)
        self.wrong(InvalidNumberError, nth_tree, [lane(name, 1) for name in LETTERS[:12]], 58786)
        self.assertEqual(nth_tree([lane("a", 1)], 0), lane("a", 1))

    def test_numbers_of_lanes(self):
        for lanes in NO_INTEGERS + [0, 13, 10 ** 30]:
            self.wrong(InvalidNumberError, count_trees, lanes)

    def test_trees(self):
        for plan in [("then", lane("a", 1), lane("b", 1)), ("zip", lane("a", 1), ("then", lane("b", 1), lane("c", 0))),
                     chain(13, 1), chain(13, 0, True), chain(40, 1)]:
            self.wrong(InvalidPlanError, tree_rank, plan)
        self.assertEqual([tree_rank(chain(12, 1)), tree_rank(chain(12, 1, True))], [0, 58785])

    def test_count_of_labels(self):
        for count in NO_INTEGERS + [10, 400, 10 ** 30]:
            self.wrong(InvalidNumberError, labels_of, P, count)
        for plan in [FAR, lane("a", 401), chain(40, 11)]:
            self.wrong(InvalidNumberError, labels_of, plan, 401)
            self.assertEqual(len(labels_of(plan, 400)), 400)
        self.wrong(InvalidNumberError, labels_of, lane("a", 0), 1)
        self.wrong(InvalidNumberError, labels_of, lane("a", 399), 400)

    def test_labels(self):
        for labels in NO_LABELS:
            self.wrong(InvalidLabelsError, plans_with, labels)
            self.wrong(InvalidLabelsError, plan_with, "l", labels)
            self.wrong(InvalidLabelsError, plan_with, "zl" * 7 + "l", labels)

    def test_shapes(self):
        for shape in NO_SHAPES:
            self.wrong(InvalidShapeError, plan_with, shape, ["a"])
            for labels in NO_LABELS:
                self.wrong(InvalidShapeError, plan_with, shape, labels)
        self.assertIsNone(plan_with("zl" * 7 + "l", ["a"]))
        self.assertIsNone(plan_with("z" * 7 + "l" * 8, ["a"]))

    def test_all_are_value_errors(self):
        with self.assertRaises(ValueError):
            size_of(None)
        with self.assertRaises(LaneError):
            size_of(None)

    def test_an_error_changes_nothing(self):
        broken = [["lane", "a", 0, 3], "b"]
        car = ["a", 0]
        for function, value in [(size_of, broken), (ends_of, broken)]:
            self.wrong(InvalidPlanError, function, value)
        self.wrong(InvalidCarError, place_of, P, car)
        row, labels = [lane("a", 1), ["lane", "b", 0, 1]], ["a", ["b"]]
        self.wrong(InvalidRowError, nth_tree, row, 0)
        self.wrong(InvalidLabelsError, plans_with, labels)
        self.assertEqual([row, labels], [[lane("a", 1), ["lane", "b", 0, 1]], ["a", ["b"]]])
        self.assertEqual(broken, [["lane", "a", 0, 3], "b"])
        self.assertEqual(car, ["a", 0])
        self.assertEqual(P, ("zip", lane("a", 3), ("zip", lane("b", 2), lane("c", 4))))


class Parameters(unittest.TestCase):
    def test_by_name(self):
        self.assertEqual(size_of(plan=P), 9)
        self.assertEqual(lanes_of(plan=P), [lane("a", 3), lane("b", 2), lane("c", 4)])
        self.assertEqual(path_of(name="a", plan=P), [("zip", 1, 6)])
        self.assertEqual(joined(many=1, name="b", plan=P)[2][1], lane("b", 3))
        self.assertEqual(rest_after(count=9, plan=P), rest_after(P, 9))
        self.assertEqual(place_of(car=("c", 1), plan=P), 6)
        self.assertEqual(car_at(place=5, plan=P), ("b", 1))
        self.assertEqual(list(walk_cars(first=8, plan=P)), [("c", 3)])
        self.assertEqual(cars_within(count=4, plan=P), [("a", 2), ("b", 1), ("c", 1)])
        self.assertEqual(ends_of(plan=P), [(4, "a"), (5, "b"), (8, "c")])
        self.assertEqual(pieces_of(name="a", plan=P), [(0, 0, 2)])
        self.assertEqual(first_difference(two=FAR, one=P), 6)
        self.assertEqual(delay_of(many=2, name="a", car=("c", 1), plan=P), 1)
        self.assertEqual(first_delayed(many=2, name="a", plan=P), ("c", 1))
        self.assertEqual(greatest_delay(many=2, name="a", plan=P), 2)
        self.assertEqual(count_trees(lanes=4), 5)
        self.assertEqual(nth_tree(index=0, row=ROW), P)
        self.assertEqual(tree_rank(plan=P), 0)
        self.assertEqual(earliest_place(car=("c", 1), row=ROW), 3)
        self.assertEqual(latest_place(car=("c", 1), row=ROW), 6)
        self.assertEqual(earliest_tree(car=("c", 1), row=ROW), ("zip", ("zip", *ROW[:2]), ROW[2]))
        self.assertEqual(possible_places(car=("b", 1), row=ROW), [5, 6])
        self.assertEqual(count_with_place(place=3, car=("c", 1), row=ROW), 1)
        self.assertEqual(labels_of(count=3, plan=P), ["a", "b", "a"])
        self.assertEqual(shape_of(plan=P), "zlzll")
        self.assertEqual(plan_with(labels=list("abacabccc"), shape="zlzll"), P)
        self.assertEqual(plans_with(labels=list("abacabccc")), [P])


if __name__ == "__main__":
    unittest.main()
