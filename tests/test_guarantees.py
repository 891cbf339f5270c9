"""[2]: what holds for all plans."""

import itertools
import random
import unittest

from brute import chain, drawn_plans, lane, lanes_in, names_in, order_of, plan_over, shapes_with, trees_over
from ziplanes.delays import delay_of
from ziplanes.labels import plan_with, shape_of
from ziplanes.places import car_at, pieces_of, place_of
from ziplanes.plans import is_plan, joined, path_of, rest_after, size_of


def places_in(plan, name):
    return [place for place, car in enumerate(order_of(plan)) if car[0] == name]


def zips_above_meeting(plan, one, two):
    """The number of the zips above the merge at which two lanes meet."""
    zips = 0
    while True:
        sides = [side for side in plan[1:] if {one, two} <= {row[1] for row in lanes_in(side)}]
        if not sides:
            return zips
        zips += plan[0] == "zip"
        plan = sides[0]


class Guarantees(unittest.TestCase):
    def test_a_place_depends_only_on_the_path(self):
        source = random.Random(21)
        for _ in range(60):
            lanes = [lane(name, source.randint(0, 5)) for name in "bcdef"]
            for kind in ["zip", "then"]:
                for own_first in [True, False]:
                    rows = []
                    for _ in range(4):
                        other = plan_over(source, source.sample(lanes, 5))
                        sides = (lane("a", 6), other) if own_first else (other, lane("a", 6))
                        rows.append([place_of((kind, *sides), ("a", number)) for number in range(6)])
                    self.assertEqual(rows, [rows[0]] * 4)

    def test_the_rest_is_a_plan(self):
        for plan in drawn_plans(22, 100):
            for count in range(size_of(plan) + 1):
                rest = rest_after(plan, count)
                self.assertTrue(is_plan(rest))
                self.assertEqual(order_of(rest), order_of(plan)[count:])

    def test_distances_never_get_greater(self):
        for plan in drawn_plans(23, 200, most_cars=12):
            for row in lanes_in(plan):
                places = [place_of(plan, (row[1], row[2] + at)) for at in range(row[3])]
                steps = [behind - place for place, behind in zip(places, places[1:])]
                self.assertEqual(steps, sorted(steps, reverse=True))
                told = [piece[2] for piece in pieces_of(plan, row[1])]
                self.assertEqual(told, sorted(told, reverse=True))

    def test_steps_behind_zips(self):
        for left in [True, False]:
            plan = chain(40, 10 ** 30, left)
            for row in lanes_in(plan):
                zips = len(path_of(plan, row[1]))
                first = place_of(plan, (row[1], 0))
                for number in [1, 2, 1000]:
                    self.assertEqual(place_of(plan, (row[1], number)), first + number * 2 ** zips)
                    self.assertEqual(car_at(plan, first + number * 2 ** zips), (row[1], number))

    def test_who_joins_delays_others_by_a_limited_number(self):
        for plan in drawn_plans(24, 150):
            for row in lanes_in(plan):
                for many in [1, 3]:
                    now = joined(plan, row[1], many)
                    for car in order_of(plan):
                        delay = place_of(now, car) - place_of(plan, car)
                        self.assertEqual(delay_of(plan, car, row[1], many), delay)
                        if car[0] == row[1]:
                            self.assertEqual(delay, 0)
                        else:
                            most = many * 2 ** zips_above_meeting(plan, car[0], row[1])
                            self.assertTrue(0 <= delay <= most)

    def test_at_most_one_plan_for_a_shape_and_an_order_of_names(self):
        source = random.Random(26)
        for _ in range(40):
            names = source.sample("abcd", source.randint(1, 4))
            found = {}
            for order in itertools.permutations([lane(name, source.randint(1, 4)) for name in names]):
                for tree in trees_over(order):
                    found.setdefault((shape_of(tree), tuple(names_in(tree))), []).append(tree)
            for (shape, labels), trees in found.items():
                self.assertEqual([plan_with(shape, list(labels))], trees)

    def test_exactly_one_plan_if_all_cars_have_different_names(self):
        for many in range(1, 9):
            labels = list("chbgafde"[:many])
            for shape in shapes_with(many):
                plan = plan_with(shape, labels)
                self.assertEqual((shape_of(plan), names_in(plan)), (shape, labels))

    def test_places_in_the_order(self):
        for plan in drawn_plans(25, 50):
            for row in lanes_in(plan):
                told = [place_of(plan, (row[1], row[2] + at)) for at in range(row[3])]
                self.assertEqual(told, places_in(plan, row[1]))


if __name__ == "__main__":
    unittest.main()
