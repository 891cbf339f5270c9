"""[2], [3], [14]: how much later cars leave if others join."""

import random
import unittest

from brute import P, chain, drawn_plan, lane, lane_name, lanes_in, order_of
from ziplanes.delays import delay_of, first_delayed, greatest_delay
from ziplanes.places import car_at, place_of
from ziplanes.plans import joined, size_of

GREAT = 10 ** 30


def delays_in(plan, name, many):
    """The delays of all cars of a plan, in its order."""
    places = {car: place for place, car in enumerate(order_of(joined(plan, name, many)))}
    return [(car, places[car] - place) for place, car in enumerate(order_of(plan))]


class Delays(unittest.TestCase):
    def check(self, plan, name, many):
        told = delays_in(plan, name, many)
        self.assertEqual([(car, delay_of(plan, car, name, many)) for car, _ in told], told)
        first = next((car for car, delay in told if delay > 0), None)
        self.assertEqual(first_delayed(plan, name, many), first)
        self.assertEqual(greatest_delay(plan, name, many), max([0, *(delay for _, delay in told)]))

    def test_against_the_orders(self):
        source = random.Random(31)
        for _ in range(120):
            plan = drawn_plan(source, most_lanes=6, most_cars=9)
            for row in lanes_in(plan):
                for many in [0, 1, source.randint(2, 5), 40]:
                    self.check(plan, row[1], many)

    def test_many_zips(self):
        source = random.Random(32)
        for _ in range(60):
            plan = drawn_plan(source, most_lanes=8, most_cars=25, kinds=("zip",))
            for row in lanes_in(plan):
                self.check(plan, row[1], source.choice((1, 2, 3, 10, 30)))

    def test_none_join(self):
        for plan in [P, lane("a", 3), lane("a", 0), chain(40, GREAT)]:
            for row in lanes_in(plan):
                self.assertIsNone(first_delayed(plan, row[1], 0))
                self.assertEqual(greatest_delay(plan, row[1], 0), 0)
        self.assertEqual(delay_of(P, ("c", 1), "a", 0), 0)

    def test_no_cars(self):
        plan = ("zip", lane("a", 0), ("then", lane("b", 0, 4), lane("c", 0)))
        for name in "abc":
            self.assertIsNone(first_delayed(plan, name, GREAT))
            self.assertIs(greatest_delay(plan, name, GREAT), 0)
        self.assertEqual(greatest_delay(lane("a", 5), "a", 3), 0)
        self.assertIsNone(first_delayed(lane("a", 5), "a", 3))

    def test_into_an_empty_lane(self):
        plan = ("zip", lane("a", 3), lane("b", 0))
        self.assertEqual(first_delayed(plan, "b", 1), ("a", 1))
        self.assertEqual([delay_of(plan, ("a", at), "b", 5) for at in range(3)], [0, 1, 2])
        self.assertEqual(greatest_delay(plan, "b", 5), 2)
        back = ("zip", lane("b", 0), lane("a", 3))
        self.assertEqual(first_delayed(back, "b", 1), ("a", 0))
        self.assertEqual([delay_of(back, ("a", at), "b", 2) for at in range(3)], [1, 2, 2])

    def test_behind_and_ahead_of_a_then(self):
        plan = ("then", lane("a", 2, 7), lane("b", 3, 1))
        self.assertEqual(first_delayed(plan, "a", 4), ("b", 1))
        self.assertEqual(greatest_delay(plan, "a", 4), 4)
        self.assertIsNone(first_delayed(plan, "b", 4))
        self.assertEqual(greatest_delay(plan, "b", 4), 0)

    def test_the_greatest_delay_is_in_the_middle(self):
        # Both new cars are ahead of the second car of c, but behind it no car of a is left.
        plan = ("zip", lane("a", 4), ("zip", lane("b", 0), lane("c", 3)))
        self.assertEqual([delay_of(plan, ("c", at), "b", 2) for at in range(3)], [2, 4, 3])
        self.assertEqual(greatest_delay(plan, "b", 2), 4)

    def test_great_numbers(self):
        plan = ("zip", lane("a", GREAT), ("zip", lane("b", 1), lane("c", GREAT)))
        self.assertEqual(first_delayed(plan, "b", GREAT), ("c", 1))
        self.assertEqual(delay_of(plan, ("c", 1), "b", GREAT), 2)
        self.assertEqual(delay_of(plan, ("c", GREAT // 4), "b", GREAT), GREAT // 2)
        self.assertEqual(delay_of(plan, ("c", GREAT - 1), "b", GREAT), GREAT - 1)
        self.assertEqual(greatest_delay(plan, "b", GREAT), GREAT - 1)
        self.assertEqual(greatest_delay(("then", lane("a", 0), lane("b", 1)), "a", GREAT), GREAT)

    def test_forty_lanes(self):
        for left in [True, False]:
            for kind in ["zip", "then"]:
                plan = chain(40, GREAT, left, kind)
                for at in [0, 1, 20, 39]:
                    name = lane_name(at)
                    first = first_delayed(plan, name, GREAT)
                    most = greatest_delay(plan, name, GREAT)
                    self.assertEqual(first is None, most == 0)
                    if first is not None:
                        self.assertGreater(delay_of(plan, first, name, GREAT), 0)
                        place = place_of(plan, first)
                        now = joined(plan, name, GREAT)
                        self.assertNotEqual(car_at(now, place), first)
                        self.assertEqual(car_at(now, place - 1), car_at(plan, place - 1))
                    last = car_at(plan, size_of(plan) - 1)
                    self.assertLessEqual(delay_of(plan, last, name, GREAT), most)

    def test_kinds(self):
        self.assertIs(type(delay_of(P, ("c", 1), "a", 2)), int)
        self.assertIs(type(greatest_delay(P, "a", 2)), int)
        self.assertIs(type(first_delayed(P, "a", 2)), tuple)


if __name__ == "__main__":
    unittest.main()
