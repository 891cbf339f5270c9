"""[3], [4], [6], [7], [9], [11]: plans, their lanes and paths, and what is left of them."""

import unittest

from brute import P, Always, chain, drawn_plans, lane, lane_name, lanes_in, order_of, path_in, rest_in
from wrong import OddTuple
from ziplanes.plans import is_plan, joined, lanes_of, path_of, rest_after, size_of


class IsPlan(unittest.TestCase):
    def told(self, value, answer):
        self.assertIs(is_plan(value), answer)

    def test_plans(self):
        for plan in [P, lane("a", 0), lane("abcdefgh", 3), lane("z", 10 ** 30, 10 ** 30)] + drawn_plans(1, 50):
            self.told(plan, True)
        self.told(("then", lane("a", 0), lane("b", 0)), True)

    def test_names(self):
        for name in ["a", "z", "abcdefgh", "zzzzzzzz", "lane", "zip", "then"]:
            self.told(lane(name, 1), True)
        for name in ["", "abcdefghi", "A", "aB", "a1", "a ", " a", "a\n", "a_", "\u00e9", "`", "{", b"a", None, 1,
                     True, ["a"], ("a",), Always()]:
            self.told(lane(name, 1), False)

    def test_numbers(self):
        for number in [True, False, -1, None, "1", 1.0, b"1", [1], (1,), Always()]:
            self.told(lane("a", number), False)
            self.told(lane("a", 1, number), False)
        self.told(lane("a", 10 ** 33 - 1, 10 ** 33 - 1), True)
        self.told(lane("a", 10 ** 6000, 10 ** 6000), True)

    def test_other_kinds(self):
        one, two = lane("a", 1), lane("b", 1)
        for value in [
            None, True, 1, "", "lane", "zip", b"zip", (), [], {}, set(), object(), Always(), (Always(), "a", 0, 1),
            (Always(), one, two), list(one), ["zip", one, two], ("zip", list(one), two), ("zip", one, list(two)),
            ("zip", [one, two]), ("zip", one), ("zip", one, two, two), ("zip",), ("zap", one, two), ("Zip", one, two),
            (b"zip", one, two), (0, one, two), ("zip", one, None), ("zip", "a", "b"), ("then", one, ()),
            ("lane", "a", 0), ("lane", "a", 0, 1, 1), ("Lane", "a", 0, 1), ("lane", 0, "a", 1), ("zip", "a", 0, 1),
            ("lane", one, two), OddTuple(one), ("zip", OddTuple(one), two), OddTuple(("zip", one, two)), (["zip"], one, two),
        ]:
            with self.subTest(value=value):
                self.told(value, False)

    def test_a_name_twice(self):
        self.told(("zip", P, P), False)
        self.told(("zip", lane("a", 1), lane("a", 0, 5)), False)
        self.told(("then", P, lane("c", 0)), False)
        self.told(("then", P, lane("cc", 0)), True)

    def test_40_and_41_lanes(self):
        for left in [True, False]:
            for kind in ["zip", "then"]:
                self.told(chain(40, 1, left, kind), True)
                self.told(chain(41, 1, left, kind), False)
                self.told(chain(41, 0, left, kind), False)
        halves = ("zip", chain(20, 1), renamed(chain(20, 1)))
        self.told(halves, True)
        self.told(("zip", halves, lane("x", 0)), False)

    def test_deep_and_repeated_values(self):
        deep = lane("a", 1)
        same = lane("a", 1)
        for _ in range(100000):
            deep = ("zip", deep, ())
        for _ in range(60):
            same = ("zip", same, same)
        loop = []
        loop.append(("zip", loop, loop))
        for value in [deep, same, loop, ("zip", loop, loop)]:
            self.told(value, False)
        while len(deep) == 3:
            deep = deep[1]


def renamed(plan):
    if plan[0] == "lane":
        return ("lane", "m" + plan[1], plan[2], plan[3])
    return (plan[0], renamed(plan[1]), renamed(plan[2]))


class LanesAndPaths(unittest.TestCase):
    def test_against_the_definitions(self):
        for plan in drawn_plans(2, 300):
            self.assertEqual(size_of(plan), len(order_of(plan)))
            self.assertEqual(lanes_of(plan), lanes_in(plan))
            for row in lanes_in(plan):
                self.assertEqual(path_of(plan, row[1]), path_in(plan, row[1]))

    def test_single_lane(self):
        self.assertEqual(size_of(lane("a", 0, 4)), 0)
        self.assertEqual(size_of(lane("a", 7, 4)), 7)
        self.assertEqual(lanes_of(lane("a", 7, 4)), [lane("a", 7, 4)])
        self.assertEqual(path_of(lane("a", 7, 4), "a"), [])

    def test_forty_lanes(self):
        for left in [True, False]:
            plan = chain(40, 10 ** 30, left)
            self.assertEqual(size_of(plan), 40 * 10 ** 30)
            self.assertEqual(len(lanes_of(plan)), 40)
            own, other = (1, 2) if left else (2, 1)
            self.assertEqual(path_of(plan, lane_name(0)), [("zip", own, 10 ** 30)] * 39)
            self.assertEqual(path_of(plan, lane_name(39)), [("zip", other, 39 * 10 ** 30)])

    def test_kinds_of_the_path(self):
        plan = ("then", ("zip", lane("a", 1), lane("b", 2)), ("then", lane("c", 3), lane("d", 0)))
        self.assertEqual(path_of(plan, "a"), [("zip", 1, 2), ("then", 1, 3)])
        self.assertEqual(path_of(plan, "b"), [("zip", 2, 1), ("then", 1, 3)])
        self.assertEqual(path_of(plan, "c"), [("then", 1, 0), ("then", 2, 3)])
        self.assertEqual(path_of(plan, "d"), [("then", 2, 3), ("then", 2, 3)])

    def test_new_lists(self):
        first = lanes_of(P)
        first.clear()
        self.assertEqual(len(lanes_of(P)), 3)
        path = path_of(P, "c")
        path.append(1)
        self.assertEqual(path_of(P, "c"), [("zip", 2, 2), ("zip", 2, 3)])
        self.assertIs(type(first), list)
        self.assertIs(type(path_of(P, "a")[0]), tuple)


class Joined(unittest.TestCase):
    def test_against_the_definitions(self):
        for plan in drawn_plans(3, 100):
            for name, many in [(row[1], many) for row in lanes_in(plan) for many in (0, 1, 10 ** 30)]:
                now = joined(plan, name, many)
                self.assertTrue(is_plan(now))
                self.assertEqual(lanes_in(now), [
                    (*row[:3], row[3] + many) if row[1] == name else row for row in lanes_in(plan)
                ])
                self.assertEqual(renamed_away(now), renamed_away(plan))

    def test_an_empty_lane_keeps_its_first_number(self):
        self.assertEqual(joined(lane("a", 0, 7), "a", 2), lane("a", 2, 7))


def renamed_away(plan):
    """The plan without its lanes: only the tree."""
    return "l" if plan[0] == "lane" else (plan[0], renamed_away(plan[1]), renamed_away(plan[2]))


class RestAfter(unittest.TestCase):
    def test_against_the_definitions(self):
        for plan in drawn_plans(4, 300):
            order = order_of(plan)
            for count in range(len(order) + 1):
                rest = rest_after(plan, count)
                self.assertEqual(rest, rest_in(plan, count))
                self.assertEqual(order_of(rest), order[count:])

    def test_none_have_left(self):
        for plan in drawn_plans(5, 50) + [P, chain(40, 10 ** 30)]:
            self.assertEqual(rest_after(plan, 0), plan)

    def test_sides_are_exchanged_also_beside_an_empty_one(self):
        plan = ("zip", lane("a", 2), lane("b", 0))
        self.assertEqual(rest_after(plan, 1), ("zip", lane("b", 0), lane("a", 1, 1)))
        self.assertEqual(rest_after(plan, 2), ("zip", lane("b", 0), lane("a", 0, 2)))
        back = ("zip", lane("b", 0), lane("a", 2))
        self.assertEqual(rest_after(back, 2), ("zip", lane("b", 0), lane("a", 0, 2)))

    def test_thens_and_untouched_zips_keep_their_sides(self):
        plan = ("then", lane("a", 1), ("zip", lane("b", 1), lane("c", 1)))
        self.assertEqual(rest_after(plan, 1), ("then", lane("a", 0, 1), ("zip", lane("b", 1), lane("c", 1))))
        self.assertEqual(rest_after(plan, 2), ("then", lane("a", 0, 1), ("zip", lane("c", 1), lane("b", 0, 1))))
        self.assertEqual(rest_after(plan, 3), ("then", lane("a", 0, 1), ("zip", lane("b", 0, 1), lane("c", 0, 1))))

    def test_in_parts(self):
        for plan in drawn_plans(6, 60):
            size = size_of(plan)
            for count in range(size + 1):
                rest = rest_after(plan, count)
                for more in range(size - count + 1):
                    self.assertEqual(order_of(rest_after(rest, more)), order_of(rest_after(plan, count + more)))

    def test_great_numbers(self):
        plan = chain(40, 10 ** 30, True)
        rest = rest_after(plan, 40 * 10 ** 30)
        self.assertEqual(sorted(lanes_of(rest)), sorted(lane(row[1], 0, 10 ** 30) for row in lanes_of(plan)))
        rest = rest_after(plan, 10 ** 29)
        self.assertTrue(is_plan(rest))
        self.assertEqual(size_of(rest), 40 * 10 ** 30 - 10 ** 29)


if __name__ == "__main__":
    unittest.main()
