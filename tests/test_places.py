"""[3], [7], [8], [12], [13]: places, cars, pieces and differences."""

import itertools
import random
import unittest

from brute import (
    FAR, P, chain, difference_of, drawn_plan, drawn_plans, lane, lane_name, lanes_in, order_of, pieces_in, plan_over,
)
from ziplanes.places import (
    car_at, cars_within, ends_of, first_difference, pieces_of, place_of, walk_cars,
)
from ziplanes.plans import joined, lanes_of, rest_after, size_of

HUGE = chain(40, 10 ** 30, True)


class Places(unittest.TestCase):
    def test_against_the_order(self):
        for plan in drawn_plans(11, 400):
            order = order_of(plan)
            self.assertEqual([place_of(plan, car) for car in order], list(range(len(order))))
            self.assertEqual([car_at(plan, place) for place in range(len(order))], order)

    def test_two_sides(self):
        for one, two in itertools.product(range(6), repeat=2):
            for kind in ["zip", "then"]:
                plan = (kind, lane("a", one, 2), lane("b", two))
                self.assertEqual([car_at(plan, place) for place in range(one + two)], order_of(plan))

    def test_formula_of_a_zip(self):
        for side, s in itertools.product((1, 2), range(5)):
            own, other = lane("a", 9), lane("b", s)
            plan = ("zip", own, other) if side == 1 else ("zip", other, own)
            then = ("then", own, other) if side == 1 else ("then", other, own)
            for k in range(9):
                self.assertEqual(place_of(plan, ("a", k)), k + min(k + side - 1, s))
                self.assertEqual(place_of(then, ("a", k)), k if side == 1 else k + s)

    def test_great_places(self):
        self.assertEqual(place_of(FAR, ("a", 10 ** 30 - 1)), 10 ** 30 + 10 ** 20 + 4)
        self.assertEqual(car_at(FAR, 10 ** 30 + 10 ** 20 + 4), ("a", 10 ** 30 - 1))
        size = size_of(HUGE)
        for place in [0, 1, 10 ** 29, 10 ** 30 + 7, size // 2, size - 1]:
            self.assertEqual(place_of(HUGE, car_at(HUGE, place)), place)
        self.assertEqual(car_at(HUGE, 0), (lane_name(0), 0))
        self.assertEqual(car_at(HUGE, size - 1), (lane_name(1), 10 ** 30 - 1))
        self.assertEqual(place_of(HUGE, (lane_name(0), 5)), 5 * 2 ** 39)

    def test_kinds(self):
        self.assertIs(type(place_of(P, ("a", 0))), int)
        self.assertIs(type(car_at(P, 0)), tuple)


class WalkCars(unittest.TestCase):
    def test_against_the_order(self):
        for plan in drawn_plans(12, 100):
            order = order_of(plan)
            self.assertEqual(list(walk_cars(plan)), order)
            for first in range(len(order) + 1):
                self.assertEqual(list(walk_cars(plan, first)), order[first:])

    def test_one_by_one(self):
        walk = iter(walk_cars(HUGE))
        self.assertEqual(next(walk), (lane_name(0), 0))
        self.assertEqual(next(walk), (lane_name(39), 0))
        first = 39 * 10 ** 30
        cars = list(itertools.islice(walk_cars(HUGE, first), 20))
        self.assertEqual(cars, [car_at(HUGE, first + at) for at in range(20)])

    def test_from_the_end(self):
        self.assertEqual(list(walk_cars(HUGE, 40 * 10 ** 30)), [])
        self.assertEqual(list(walk_cars(HUGE, 40 * 10 ** 30 - 1)), [(lane_name(1), 10 ** 30 - 1)])
        self.assertEqual(list(walk_cars(lane("a", 0, 3))), [])
        self.assertEqual(list(walk_cars(lane("a", 2, 3))), [("a", 3), ("a", 4)])


class CarsWithinAndEnds(unittest.TestCase):
    def test_against_the_order(self):
        for plan in drawn_plans(13, 200):
            order = order_of(plan)
            names = sorted(row[1] for row in lanes_in(plan))
            for count in range(len(order) + 1):
                ahead = [car[0] for car in order[:count]]
                self.assertEqual(cars_within(plan, count), [(name, ahead.count(name)) for name in names])
            last = {car[0]: place for place, car in enumerate(order)}
            self.assertEqual(ends_of(plan), sorted((place, name) for name, place in last.items()))

    def test_empty_lanes(self):
        plan = ("zip", lane("b", 0, 9), ("then", lane("a", 0), lane("c", 2)))
        self.assertEqual(cars_within(plan, 0), [("a", 0), ("b", 0), ("c", 0)])
        self.assertEqual(cars_within(plan, 2), [("a", 0), ("b", 0), ("c", 2)])
        self.assertEqual(ends_of(plan), [(1, "c")])
        self.assertEqual(ends_of(lane("a", 0)), [])
        self.assertEqual(cars_within(lane("a", 0), 0), [("a", 0)])

    def test_great_numbers(self):
        size = size_of(HUGE)
        for count in [0, 1, 10 ** 29 + 3, size - 1, size]:
            within = dict(cars_within(HUGE, count))
            self.assertEqual(sum(within.values()), count)
            rest = {row[1]: row for row in lanes_of(rest_after(HUGE, count))}
            self.assertEqual(within, {name: rest[name][2] for name in rest})
        ends = ends_of(HUGE)
        self.assertEqual(ends[0], (2 * 10 ** 30 - 1, lane_name(39)))
        self.assertEqual(ends[-1], (size - 1, lane_name(1)))
        self.assertEqual(ends, sorted(ends))
        for place, name in ends:
            self.assertEqual(car_at(HUGE, place), (name, 10 ** 30 - 1))


class Pieces(unittest.TestCase):
    def test_against_the_order(self):
        for plan in drawn_plans(14, 600, most_cars=14):
            for row in lanes_in(plan):
                self.assertEqual(pieces_of(plan, row[1]), pieces_in(plan, row[1]))

    def test_many_zips(self):
        for plan in drawn_plans(15, 200, most_lanes=8, most_cars=30, kinds=("zip",)):
            for row in lanes_in(plan):
                self.assertEqual(pieces_of(plan, row[1]), pieces_in(plan, row[1]))

    def test_short_lanes(self):
        plan = ("then", lane("d", 4), ("zip", lane("b", 1, 5), ("zip", lane("a", 0, 3), lane("c", 2, 7))))
        self.assertEqual(pieces_of(plan, "a"), [])
        self.assertEqual(pieces_of(plan, "b"), [(5, 4, 0)])
        self.assertEqual(pieces_of(plan, "c"), [(7, 5, 1)])
        self.assertEqual(pieces_of(lane("a", 5, 2), "a"), [(2, 0, 1)])

    def test_great_lanes(self):
        for left in [True, False]:
            plan = chain(40, 10 ** 30, left)
            for row in lanes_of(plan):
                pieces = pieces_of(plan, row[1])
                self.assertEqual(pieces[0][:2], (0, place_of(plan, (row[1], 0))))
                steps = [piece[2] for piece in pieces]
                self.assertEqual(steps, sorted(set(steps), reverse=True))
                for number, place, step in pieces:
                    self.assertEqual(place_of(plan, (row[1], number)), place)
                    self.assertEqual(place_of(plan, (row[1], number + 1)), place + step)

    def test_pieces_tell_every_place(self):
        for plan in drawn_plans(16, 100, most_cars=20):
            for row in lanes_in(plan):
                pieces = pieces_of(plan, row[1])
                for number in range(row[2], row[2] + row[3]):
                    begun, place, step = [piece for piece in pieces if piece[0] <= number][-1]
                    self.assertEqual(place_of(plan, (row[1], number)), place + (number - begun) * step)


def all_plans(lanes):
    return [plan for row in itertools.permutations(lanes) for plan in plans_over(row)]


def plans_over(lanes):
    """All plans whose lanes from left to right are these."""
    if len(lanes) == 1:
        return [lanes[0]]
    return [
        (kind, one, two) for cut in range(1, len(lanes))
        for one in plans_over(lanes[:cut]) for two in plans_over(lanes[cut:]) for kind in ("zip", "then")
    ]


class FirstDifference(unittest.TestCase):
    def check(self, one, two):
        expected = difference_of(one, two)
        self.assertEqual(first_difference(one, two), expected, (one, two))
        self.assertEqual(first_difference(two, one), expected, (two, one))

    def test_against_the_orders(self):
        source = random.Random(17)
        for _ in range(400):
            lanes = lanes_in(drawn_plan(source, most_cars=9))
            self.check(plan_over(source, lanes), plan_over(source, lanes))
            self.check(plan_over(source, lanes), drawn_plan(source))

    def test_late_differences(self):
        source = random.Random(18)
        for _ in range(400):
            one = drawn_plan(source, most_cars=12)
            two = one
            for row in lanes_in(one):
                two = joined(two, row[1], source.choice((0, 0, 0, 1, 2)))
            self.check(one, two)
            self.check(one, rest_after(two, source.randint(0, 1) * (size_of(two) // 2)))

    def test_lanes_that_part_without_an_end(self):
        # Here two plans have the same first cars of all lanes, and differ behind them.
        one = ("zip", ("zip", ("zip", lane("b", 3), lane("c", 1)), lane("a", 2)), lane("d", 1))
        two = ("zip", ("zip", lane("b", 3), lane("a", 2)), ("then", lane("d", 1), lane("c", 1)))
        self.assertEqual(first_difference(one, two), 4)
        for sizes in [(2, 1, 2, 1), (4, 1, 2, 2), (5, 1, 3, 1)]:
            by_first_cars = {}
            for plan in all_plans([lane("abcd"[at], many, at) for at, many in enumerate(sizes)]):
                order = tuple(order_of(plan))
                by_first_cars.setdefault(order[:4], {}).setdefault(order, plan)
            for plans in by_first_cars.values():
                for one, two in itertools.combinations(list(plans.values())[:12], 2):
                    self.check(one, two)

    def test_equal_orders(self):
        self.assertIsNone(first_difference(P, P))
        self.assertIsNone(first_difference(HUGE, HUGE))
        self.assertIsNone(first_difference(lane("a", 0), lane("b", 0, 7)))
        self.assertIsNone(first_difference(lane("a", 0), chain(40, 0)))
        one, two = lane("a", 2), lane("b", 1)
        self.assertIsNone(first_difference(("zip", one, two), ("zip", ("zip", one, two), lane("c", 0, 5))))
        self.assertIsNone(first_difference(("zip", lane("a", 1), two), ("then", lane("a", 1), two)))

    def test_first_numbers(self):
        self.assertEqual(first_difference(lane("a", 3), lane("a", 3, 1)), 0)
        self.assertEqual(first_difference(lane("a", 3, 1), lane("a", 2, 1)), 2)
        self.assertEqual(first_difference(lane("a", 0), lane("a", 1)), 0)

    def test_great_numbers(self):
        # The outermost lane takes every second place, so it ends first; the innermost pair ends last.
        self.assertEqual(first_difference(HUGE, joined(HUGE, lane_name(39), 1)), 2 * 10 ** 30 + 1)
        self.assertEqual(first_difference(HUGE, joined(HUGE, lane_name(1), 1)), 40 * 10 ** 30)
        self.assertEqual(first_difference(lane("a", 10 ** 30), lane("a", 10 ** 30 - 1)), 10 ** 30 - 1)
        one = ("zip", lane("a", 10 ** 30), ("zip", lane("b", 10 ** 29), lane("c", 10 ** 29)))
        two = ("zip", lane("a", 10 ** 30), ("zip", lane("b", 10 ** 29 + 1), lane("c", 10 ** 29)))
        place = first_difference(one, two)
        self.assertEqual(place, 4 * 10 ** 29 + 1)
        self.assertNotEqual(car_at(one, place), car_at(two, place))
        for ahead in [1, 2, 3, 10 ** 29]:
            self.assertEqual(car_at(one, place - ahead), car_at(two, place - ahead))


class NewLists(unittest.TestCase):
    def test_each_call_gives_a_new_list(self):
        for function, arguments in [(cars_within, (P, 4)), (ends_of, (P,)), (pieces_of, (P, "c"))]:
            first = function(*arguments)
            kept = list(first)
            self.assertIs(type(first), list)
            self.assertTrue(all(type(row) is tuple for row in first))
            first.clear()
            self.assertEqual(function(*arguments), kept)


if __name__ == "__main__":
    unittest.main()
