"""[3], [4], [5], [21], [22], [23]: roads, their operators, and the errors that they raise."""

import itertools
import unittest

from brute import (
    FAR, P, Always, chain, drawn_plans, lane, lane_name, lanes_in, order_of, rest_in, text_in,
)
from wrong import NO_CARS, NO_CARS_OF_P, NO_INTEGERS, NO_NAMES, NO_PLANS, WrongCalls
from ziplanes.errors import (
    InvalidFormatError, InvalidNameError, InvalidNumberError, InvalidPlanError, InvalidRoadError, SameNameError,
    TooManyError,
)
from ziplanes.live import LiveRoad
from ziplanes.roads import Lane, Road, Then, Zip

GREAT = 10 ** 30
NO_ROADS = [
    None, True, 0, "a3", (), [], {}, object(), Always(), P, lane("x", 3), Road, Lane, LiveRoad(P), [Lane("x", 1)],
]


class OddRoad(Road):
    """A class below Road that the program does not know."""


def built(plan):
    """The road of a plan, built lane by lane."""
    if plan[0] == "lane":
        return Lane(plan[1], plan[3], plan[2])
    return {"zip": Zip, "then": Then}[plan[0]](built(plan[1]), built(plan[2]))


def abc():
    return Lane("a", 3) + (Lane("b", 2) + Lane("c", 4))


class MadeOf(WrongCalls):
    def test_classes(self):
        for kind in [Lane, Zip, Then]:
            self.assertTrue(issubclass(kind, Road))
        self.assertEqual([Road.MOST, abc().MOST, Lane.MOST], [40, 40, 40])

    def test_plans(self):
        for plan in drawn_plans(71, 200, most_lanes=7):
            for road in [Road(plan), built(plan)]:
                self.assertEqual(road.plan, plan)
                self.assertEqual(road.size, len(order_of(plan)))
                self.assertEqual(road.names, [row[1] for row in lanes_in(plan)])
                self.assertEqual(len(road), len(lanes_in(plan)))
        self.assertEqual(Road(FAR).size, GREAT + 5 + 10 ** 20)

    def test_wrong_plans(self):
        for value in NO_PLANS + ["a3", Lane("a", 3), ("zip", Lane("a", 1), Lane("b", 1))]:
            self.wrong(InvalidPlanError, Road, value)
            self.wrong(InvalidPlanError, Road, plan=value)

    def test_lanes(self):
        self.assertEqual(Lane("a", 3).plan, lane("a", 3))
        self.assertEqual(Lane("abcdefgh", GREAT, GREAT).plan, lane("abcdefgh", GREAT, GREAT))
        self.assertEqual(Lane("z", 0).plan, lane("z", 0))
        self.assertEqual(Lane("zip", 0, 7).plan, lane("zip", 0, 7))
        self.assertEqual(Lane("zip", 1).name, "zip")
        self.assertEqual(Lane("a", 3, 4), Lane(first=4, many=3, name="a"))

    def test_wrong_lanes(self):
        for name in NO_NAMES:
            self.wrong(InvalidNameError, Lane, name, 1)
            self.wrong(InvalidNameError, Lane, name, -1, True)
            self.wrong(InvalidNameError, Lane, name, many=None)
        for number in NO_INTEGERS + [GREAT + 1]:
            self.wrong(InvalidNumberError, Lane, "a", number)
            self.wrong(InvalidNumberError, Lane, "a", number, 1)
            self.wrong(InvalidNumberError, Lane, "a", 1, number)
            self.wrong(InvalidNumberError, Lane, "a", 1, first=number)
            self.wrong(InvalidNumberError, Lane, "a", number, number)

    def test_merges(self):
        one, two = Lane("a", 3), Road(("then", lane("b", 2), lane("c", 0)))
        for merged, kind in [(Zip(one, two), "zip"), (Then(one, two), "then"), (Zip(two=two, one=one), "zip"),
                             (Then(two=two, one=one), "then")]:
            self.assertEqual(merged.plan, (kind, one.plan, two.plan))
            self.assertIs(type(merged.sides), tuple)
            self.assertEqual(len(merged.sides), 2)
            self.assertIs(merged.sides[0], one)
            self.assertIs(merged.sides[1], two)
        self.assertEqual(Zip(OddRoad(lane("d", 1)), one).plan, ("zip", lane("d", 1), lane("a", 3)))

    def merged(self):
        return [Zip, Then, lambda one, two: one + two, lambda one, two: one >> two]

    def test_no_roads(self):
        for value in NO_ROADS:
            for merge in self.merged():
                self.wrong(InvalidRoadError, merge, abc(), value)
            for kind in [Zip, Then]:
                self.wrong(InvalidRoadError, kind, value, abc())
                self.wrong(InvalidRoadError, kind, value, value)
                self.wrong(InvalidRoadError, kind, one=value, two=abc())

    def test_same_names(self):
        one = abc()
        for merge in self.merged():
            self.wrong(SameNameError, merge, one, one)
            self.wrong(SameNameError, merge, Lane("c", 0, 5), one)
            self.wrong(SameNameError, merge, one, Then(Lane("x", 1), Lane("b", 0)))
            # The same name goes ahead of too many lanes.
            self.wrong(SameNameError, merge, Road(chain(40, 1)), Lane(lane_name(17), 0))
            self.wrong(SameNameError, merge, Road(chain(39, 1)), Road(chain(40, 1)))
        self.assertEqual(one.plan, P)

    def test_40_and_41_lanes(self):
        for merge in self.merged():
            self.assertEqual(len(merge(Road(chain(39, GREAT)), Lane("x", 1))), 40)
            self.assertEqual(len(merge(Lane("x", 0), Road(chain(39, 0)))), 40)
            self.wrong(TooManyError, merge, Road(chain(40, 1)), Lane("x", 0))
            self.wrong(TooManyError, merge, Lane("x", 1), Road(chain(40, 1)))
            self.wrong(TooManyError, merge, Road(chain(39, 0)), Lane("x", 0) + Lane("y", 0))
        road = Lane(lane_name(0), 1)
        for at in range(1, 40):
            road = Lane(lane_name(at), 1) + road
        self.assertEqual(road.plan, chain(40, 1))
        self.wrong(TooManyError, lambda: road + Lane("x", 1))
        self.assertEqual(len(road), 40)


class Operators(WrongCalls):
    def test_merges(self):
        one, two = Lane("a", 1), Lane("b", 2)
        self.assertIs(type(one + two), Zip)
        self.assertIs(type(one >> two), Then)
        self.assertEqual((one + two).plan, ("zip", lane("a", 1), lane("b", 2)))
        self.assertEqual((two >> one).plan, ("then", lane("b", 2), lane("a", 1)))
        self.assertIs((one + two).sides[1], two)
        self.assertIs((one >> two).sides[0], one)
        self.assertIs(type(Road(P) + Lane("d", 1)), Zip)
        self.assertEqual(((one + two) >> (Lane("c", 3) + Lane("d", 4))).plan,
                         ("then", ("zip", lane("a", 1), lane("b", 2)), ("zip", lane("c", 3), lane("d", 4))))
        kept = road = one + two
        road += Lane("c", 1)
        self.assertEqual([len(kept), len(road)], [2, 3])

    def test_in(self):
        for plan in drawn_plans(72, 60):
            road = Road(plan)
            for name, number in itertools.product("abcdefgh", range(-1, 11)):
                self.assertIs((name, number) in road, (name, number) in order_of(plan))
        road = abc()
        for value in NO_CARS_OF_P + [P, road]:
            self.assertIs(value in road, False)
        self.assertIs(("a", 2) in road, True)
        self.assertIs(("a", 2) not in road, False)
        far = Lane("a", GREAT, GREAT)
        self.assertEqual([("a", number) in far for number in [GREAT - 1, GREAT, 2 * GREAT - 1, 2 * GREAT]],
                         [False, True, True, False])
        self.assertNotIn(("a", 0), Lane("a", 0))

    def test_call(self):
        for plan in drawn_plans(73, 60):
            road = Road(plan)
            self.assertEqual([road(place) for place in range(road.size)], order_of(plan))
            self.wrong(InvalidNumberError, road, road.size)
        road = abc()
        self.assertEqual(road(place=5), ("b", 1))
        for place in NO_INTEGERS + [9, GREAT]:
            self.wrong(InvalidNumberError, road, place)
        self.wrong(InvalidNumberError, Lane("a", 0), 0)
        self.assertEqual(Road(FAR)(GREAT), ("a", GREAT - 10 ** 20 - 5))

    def test_len(self):
        self.assertEqual([len(Lane("a", 0)), len(abc()), len(Road(chain(40, 0)))], [1, 3, 40])

    def test_equal(self):
        roads = [Lane("a", 3), Road(lane("a", 3)), OddRoad(lane("a", 3)), Lane("a", 3, 0)]
        for one, two in itertools.product(roads, repeat=2):
            self.assertIs(one == two, True)
            self.assertIs(one != two, False)
        self.assertTrue(Road(P) == abc() == built(P))
        one, two = Lane("a", 3), Lane("b", 3)
        unequal = [one, two, Lane("a", 4), Lane("a", 3, 1), one + two, one >> two, two + one, two >> one, abc()]
        for first, second in itertools.combinations(unequal, 2):
            self.assertIs(first == second, False)
            self.assertIs(first != second, True)
        # These two have the same order, but not the same plan.
        self.assertNotEqual(Lane("a", 1) + Lane("b", 1), Lane("a", 1) >> Lane("b", 1))

    def test_not_equal_to_other_values(self):
        road = Lane("a", 3)
        for value in [None, True, 0, "a3", lane("a", 3), [lane("a", 3)], object(), LiveRoad(lane("a", 3)), Lane, Road]:
            self.assertIs(road == value, False)
            self.assertIs(value == road, False)
            self.assertIs(road != value, True)
        self.assertIs(road == Always(), False)


class Methods(WrongCalls):
    def test_rest(self):
        for plan in drawn_plans(74, 60):
            for road in [Road(plan), built(plan)]:
                for count in range(road.size + 1):
                    rest = road.rest(count)
                    self.assertIs(type(rest), Road)
                    self.assertEqual(rest.plan, rest_in(plan, count))
                self.assertEqual(road.plan, plan)
                self.wrong(InvalidNumberError, road.rest, road.size + 1)
        for count in NO_INTEGERS + [10]:
            self.wrong(InvalidNumberError, abc().rest, count)
        self.assertIs(type(Lane("a", 3).rest(0)), Road)
        self.assertEqual(Lane("a", GREAT).rest(count=GREAT).plan, lane("a", 0, GREAT))

    def test_cars(self):
        for plan in drawn_plans(75, 60):
            road, order = built(plan), order_of(plan)
            self.assertEqual(list(road.cars()), order)
            for first in range(len(order) + 1):
                self.assertEqual(list(road.cars(first)), order[first:])
        walk = iter(Road(FAR).cars(first=GREAT))
        self.assertEqual([next(walk), next(walk)], [("a", GREAT - 10 ** 20 - 5), ("a", GREAT - 10 ** 20 - 4)])
        for first in NO_INTEGERS + [10]:
            self.wrong(InvalidNumberError, lambda: list(abc().cars(first)))
        self.assertEqual(list(Lane("a", 0).cars(0)), [])

    def test_told(self):
        one, two = Lane("a", 3), Lane("bc", GREAT)
        self.assertEqual(one.told(), ["cars 3", "lanes 1", "lane a"])
        self.assertEqual(two.told(), ["cars 1" + "0" * 30, "lanes 1", "lane bc"])
        self.assertEqual((one + two).told(), ["cars 1" + "0" * 29 + "3", "lanes 2", "zip"])
        self.assertEqual((one >> Lane("b", 0)).told(), ["cars 3", "lanes 2", "then"])
        for road in [one, one + two, one >> two]:
            self.assertEqual(Road(road.plan).told(), road.told()[:2])
            self.assertEqual(road.rest(0).told(), road.told()[:2])
        self.assertEqual(Road(chain(40, 2)).told(), ["cars 80", "lanes 40"])

    def test_read(self):
        for plan in drawn_plans(76, 60):
            for reader in [Road, Lane, Zip, Then, OddRoad, Lane("x", 1), built(plan)]:
                road = reader.read(text_in(plan))
                self.assertIs(type(road), Road)
                self.assertEqual(road.plan, plan)
        self.assertEqual(Zip.read(text="a3").told(), ["cars 3", "lanes 1"])
        for text in ["", "a03", "(a3 + a2)", "(a3+b2)", "a3@0", text_in(chain(41, 1)), None, 3, b"a3", P, Always()]:
            for reader in [Road, Lane, Zip]:
                self.wrong(InvalidFormatError, reader.read, text)

    def test_is_car(self):
        for value in [("a", 0), ("abcdefgh", 10 ** 40), ("zip", 7), ("a", 3)]:
            for told in [Road.is_car, Lane.is_car, abc().is_car]:
                self.assertIs(told(value), True)
        for value in NO_CARS:
            self.assertIs(Road.is_car(value), False)
        self.assertIs(Road.is_car(value=("a", 0)), True)


class NeverChange(unittest.TestCase):
    def test_new_lists(self):
        road = abc()
        for get in [lambda: road.names, road.told]:
            first = get()
            self.assertIs(type(first), list)
            kept = list(first)
            first.clear()
            self.assertEqual(get(), kept)
        self.assertEqual([road.plan, len(road), road.names], [P, 3, ["a", "b", "c"]])

    def test_nothing_is_assigned(self):
        road = abc()
        for name in ["plan", "size", "names", "sides"]:
            with self.assertRaises(AttributeError):
                setattr(road, name, None)
        with self.assertRaises(AttributeError):
            Lane("a", 3).name = "b"
        self.assertEqual(road, Road(P))

    def test_a_call_with_an_error_changes_nothing(self):
        road = abc()
        for call in [lambda: road + road, lambda: road >> None, lambda: road.rest(10), lambda: road(9),
                     lambda: list(road.cars(10)), lambda: road.read("a")]:
            with self.assertRaises(ValueError):
                call()
        self.assertEqual([road.plan, road.size, road.names, len(road)], [P, 9, ["a", "b", "c"], 3])
        self.assertEqual(road.sides, (Lane("a", 3), Lane("b", 2) + Lane("c", 4)))

    def test_operators_change_nothing(self):
        road = abc()
        one, two = road + Lane("d", 1), road >> Lane("d", 1)
        self.assertEqual([one.sides[0], two.sides[0], road.plan], [road, road, P])
        list(road.cars())
        road.rest(4)
        self.assertEqual(list(road.cars()), order_of(P))


if __name__ == "__main__":
    unittest.main()
