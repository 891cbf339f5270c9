"""[2], [3], [17] to [20]: labels, shapes, and plans read back from them."""

import itertools
import random
import unittest

from brute import (
    FAR, P, chain, drawn_plan, drawn_plans, lane, lane_name, lanes_in, names_in, plan_over, shape_in, shapes_with,
    trees_over,
)
from ziplanes.labels import labels_of, plan_with, plans_with, shape_of
from ziplanes.plans import is_plan

GREAT = 10 ** 30


def all_plans_with(labels):
    """All trees with these labels, found by trying each one."""
    lanes = [lane(name, labels.count(name)) for name in set(labels)]
    trees = [tree for row in itertools.permutations(lanes) for tree in trees_over(row)]
    return sorted(tree for tree in trees if names_in(tree) == labels)


class LabelsOf(unittest.TestCase):
    def test_against_the_orders(self):
        for plan in drawn_plans(51, 200, most_lanes=7):
            names = names_in(plan)
            for count in range(len(names) + 1):
                self.assertEqual(labels_of(plan, count), names[:count])

    def test_no_cars(self):
        self.assertEqual(labels_of(P, 0), [])
        self.assertEqual(labels_of(lane("a", 0), 0), [])

    def test_400_of_great_lanes(self):
        self.assertEqual(labels_of(lane("a", GREAT), 400), ["a"] * 400)
        self.assertEqual(labels_of(FAR, 7), ["a", "b", "a", "c", "a", "b", "a"])
        self.assertEqual(labels_of(lane("a", 400), 400), ["a"] * 400)

    def test_more_than_eight_names(self):
        for left in [True, False]:
            labels = labels_of(chain(40, GREAT, left), 400)
            self.assertEqual(labels, names_in(chain(40, 400, left))[:400])
        self.assertEqual(labels_of(chain(40, 1, kind="then"), 40), [lane_name(at) for at in range(39, -1, -1)])

    def test_new_lists(self):
        labels = labels_of(P, 3)
        self.assertIs(type(labels), list)
        labels.clear()
        self.assertEqual(labels_of(P, 3), ["a", "b", "a"])


class Shapes(unittest.TestCase):
    def test_against_the_definition(self):
        for plan in drawn_plans(52, 200, most_lanes=8):
            self.assertEqual(shape_of(plan), shape_in(plan))

    def test_kinds(self):
        self.assertEqual(shape_of(lane("zip", 0)), "l")
        self.assertEqual(shape_of(("then", lane("a", 1), ("zip", lane("b", 1), lane("c", 1)))), "tlzll")
        self.assertEqual(shape_of(("zip", ("then", lane("a", 1), lane("b", 1)), lane("c", 0))), "ztlll")

    def test_forty_lanes(self):
        self.assertEqual(shape_of(chain(40, GREAT)), "zl" * 39 + "l")
        self.assertEqual(shape_of(chain(40, 0, True, "then")), "t" * 39 + "l" * 40)


class PlansWith(unittest.TestCase):
    def check(self, labels):
        plans = all_plans_with(labels)
        self.assertEqual(plans_with(labels), plans)
        lanes = len(set(labels))
        by_shape = {shape_in(plan): plan for plan in plans}
        # The fifth guarantee of [2]: a shape has one plan at most.
        self.assertEqual(len(by_shape), len(plans))
        for shape in shapes_with(lanes):
            self.assertEqual(plan_with(shape, labels), by_shape.get(shape))
        for others in {1, 2, 3, 8} - {lanes}:
            for shape in shapes_with(others)[:3]:
                self.assertIsNone(plan_with(shape, labels))

    def test_all_short_labels(self):
        for many in range(1, 6):
            for labels in itertools.product("abc", repeat=many):
                self.check(list(labels))

    def test_labels_of_plans(self):
        source = random.Random(53)
        for _ in range(150):
            lanes = [lane(name, source.randint(1, 6)) for name in source.sample("abcdefgh", source.randint(1, 5))]
            self.check(names_in(plan_over(source, lanes, ["zip"])))

    def test_labels_of_plans_with_thens(self):
        for plan in drawn_plans(54, 100, most_lanes=4):
            if names_in(plan):
                self.check(names_in(plan))

    def test_labels_of_plans_that_are_changed(self):
        source = random.Random(55)
        for _ in range(100):
            labels = names_in(drawn_plan(source, most_lanes=4, kinds=["zip"])) or ["a"]
            one, two = source.randrange(len(labels)), source.randrange(len(labels))
            labels[one], labels[two] = labels[two], labels[one]
            self.check(labels)

    def test_one_label(self):
        self.assertEqual(plans_with(["abcdefgh"]), [lane("abcdefgh", 1)])
        self.assertEqual(plan_with("l", ["zip"]), lane("zip", 1))
        self.assertIsNone(plan_with("zll", ["a"]))

    def test_one_name(self):
        self.assertEqual(plans_with(["a"] * 100), [lane("a", 100)])
        self.assertEqual(plan_with("l", ["a"] * 100), lane("a", 100))
        self.assertIsNone(plan_with("l", ["a", "b"]))

    def test_different_labels(self):
        for many in range(1, 9):
            labels = list("hgfedcba"[:many])
            plans = plans_with(labels)
            self.assertEqual(plans, sorted(plans))
            self.assertEqual(sorted(shape_in(plan) for plan in plans), shapes_with(many))
            for plan in plans:
                self.assertTrue(is_plan(plan))
                self.assertEqual(names_in(plan), labels)
                self.assertEqual({row[2:] for row in lanes_in(plan)}, {(0, 1)})
                self.assertEqual(plan_with(shape_in(plan), labels), plan)

    def test_100_labels_of_eight_names(self):
        source = random.Random(56)
        for _ in range(40):
            cuts = sorted(source.sample(range(1, 100), 7))
            sizes = [behind - cut for cut, behind in zip([0, *cuts], [*cuts, 100])]
            names = source.sample("abcdefgh", 8)
            plan = plan_over(source, [lane(name, many) for name, many in zip(names, sizes)], ["zip"])
            labels = names_in(plan)
            self.assertEqual(plan_with(shape_in(plan), labels), plan)
            plans = plans_with(labels)
            self.assertIn(plan, plans)
            by_shape = [plan_with(shape, labels) for shape in shapes_with(8)]
            self.assertEqual(plans, sorted(other for other in by_shape if other is not None))
            self.assertEqual([names_in(other) for other in plans], [labels] * len(plans))

    def test_no_plan(self):
        for text in ["aab", "aabb", "abba", "abacbb"]:
            self.assertEqual(plans_with(list(text)), all_plans_with(list(text)))
        self.assertEqual(plans_with(list("aab")), [])
        self.assertIsNone(plan_with("zll", list("aab")))

    def test_arguments_do_not_change(self):
        labels = list("abacabccc")
        plans = plans_with(labels)
        plan_with("zlzll", labels)
        self.assertEqual(labels, list("abacabccc"))
        plans.clear()
        self.assertEqual(plans_with(labels), [P])


if __name__ == "__main__":
    unittest.main()
