"""The examples of the document, word for word."""

import doctest
import unittest
from pathlib import Path

EXAMPLES = {
    10: r'''
>>> P = ("zip", ("lane", "a", 0, 3), ("zip", ("lane", "b", 0, 2), ("lane", "c", 0, 4)))
''',
    11: r'''
>>> from ziplanes.plans import is_plan, joined, lanes_of, path_of, rest_after, size_of
>>> P = ("zip", ("lane", "a", 0, 3), ("zip", ("lane", "b", 0, 2), ("lane", "c", 0, 4)))
>>> [is_plan(P), is_plan(("zip", P, P)), size_of(P), lanes_of(P)[1], path_of(P, "c"), joined(P, "a", 2)[1]]
[True, False, 9, ('lane', 'b', 0, 2), [('zip', 2, 2), ('zip', 2, 3)], ('lane', 'a', 0, 5)]
>>> [rest_after(P, 1), rest_after(P, 4)[2]]
[('zip', ('zip', ('lane', 'b', 0, 2), ('lane', 'c', 0, 4)), ('lane', 'a', 1, 2)), ('zip', ('lane', 'b', 1, 1), ('lane', 'c', 1, 3))]
''',
    12: r'''
>>> from ziplanes.places import car_at, cars_within, ends_of, first_difference, pieces_of, place_of, walk_cars
>>> P = ("zip", ("lane", "a", 0, 3), ("zip", ("lane", "b", 0, 2), ("lane", "c", 0, 4)))
>>> [place_of(P, ("c", 1)), car_at(P, 5), list(walk_cars(P, 6)), cars_within(P, 4), ends_of(P)]
[6, ('b', 1), [('c', 1), ('c', 2), ('c', 3)], [('a', 2), ('b', 1), ('c', 1)], [(4, 'a'), (5, 'b'), (8, 'c')]]
''',
    13: r'''
>>> from ziplanes.places import first_difference, pieces_of
>>> P = ("zip", ("lane", "a", 0, 3), ("zip", ("lane", "b", 0, 2), ("lane", "c", 0, 4)))
>>> far = ("zip", ("lane", "a", 0, 10 ** 30), ("zip", ("lane", "b", 0, 5), ("lane", "c", 0, 10 ** 20)))
>>> [pieces_of(P, "a"), pieces_of(P, "c"), pieces_of(far, "c"), first_difference(P, far)]
[[(0, 0, 2)], [(0, 3, 3), (1, 6, 1)], [(0, 3, 4), (4, 19, 2)], 6]
''',
    14: r'''
>>> from ziplanes.delays import delay_of, first_delayed, greatest_delay
>>> P = ("zip", ("lane", "a", 0, 3), ("zip", ("lane", "b", 0, 2), ("lane", "c", 0, 4)))
>>> [delay_of(P, ("c", 1), "a", 2), delay_of(P, ("b", 1), "a", 2), first_delayed(P, "a", 2), greatest_delay(P, "a", 2)]
[1, 0, ('c', 1), 2]
>>> deep = ("zip", ("lane", "a", 0, 100), ("zip", ("lane", "b", 0, 1), ("lane", "c", 0, 5)))
>>> [greatest_delay(deep, "b", 1), greatest_delay(deep, "a", 10 ** 30), first_delayed(deep, "c", 0)]
[2, 0, None]
''',
    16: r'''
>>> from ziplanes.rows import count_trees, count_with_place, earliest_place, latest_place, nth_tree, possible_places, tree_rank
>>> a, b, c = ("lane", "a", 0, 3), ("lane", "b", 0, 2), ("lane", "c", 0, 4)
>>> [count_trees(4), nth_tree([a, b, c], 0) == ("zip", a, ("zip", b, c)), tree_rank(("zip", ("zip", a, b), c))]
[5, True, 1]
>>> [earliest_place([a, b, c], ("c", 1)), latest_place([a, b, c], ("c", 1)), possible_places([a, b, c], ("b", 1))]
[3, 6, [5, 6]]
>>> [count_with_place([a, b, c], ("c", 1), place) for place in [3, 4]]
[1, 0]
''',
    20: r'''
>>> from ziplanes.labels import labels_of, plan_with, plans_with, shape_of
>>> P = ("zip", ("lane", "a", 0, 3), ("zip", ("lane", "b", 0, 2), ("lane", "c", 0, 4)))
>>> [shape_of(P), "".join(labels_of(P, 9)), plan_with("zlzll", labels_of(P, 9)) == P, plan_with("zzlll", list("abacabccc"))]
['zlzll', 'abacabccc', True, None]
>>> [len(plans_with(list("abacabccc"))), [shape_of(plan) for plan in plans_with(list("abc"))], plan_with("zzlll", list("abc"))[1]]
[1, ['zlzll', 'zzlll'], ('zip', ('lane', 'a', 0, 1), ('lane', 'c', 0, 1))]
''',
    23: r'''
>>> from ziplanes.roads import Lane, Road, Then, Zip
>>> road = Lane("a", 3) + (Lane("b", 2) + Lane("c", 4))
>>> [road == Road.read("(a3 + (b2 + c4))"), road(6), ("c", 4) in road, len(road), road.names, road.told()]
[True, ('c', 1), False, 3, ['a', 'b', 'c'], ['cars 9', 'lanes 3', 'zip']]
>>> [list((Lane("a", 1) >> Lane("b", 2)).cars()), list(road.rest(7).cars()), road.sides[0].name, Road.is_car(("a", 0))]
[[('a', 0), ('b', 0), ('b', 1)], [('c', 2), ('c', 3)], 'a', True]
''',
    26: r'''
>>> from ziplanes.live import LiveRoad, LoggedCountingRoad
>>> P = ("zip", ("lane", "a", 0, 3), ("zip", ("lane", "b", 0, 2), ("lane", "c", 0, 4)))
>>> live = LoggedCountingRoad(P)
>>> [live.go(2), live.arrive("b", 1), live.go(3), live.ahead_of(("b", 2)), live.undo(), live.peek(2), live.counts, live.report()]
[[('a', 0), ('b', 0)], None, [('a', 1), ('c', 0), ('a', 2)], 2, None, [('a', 1), ('c', 0)], [('a', 1), ('b', 1), ('c', 0)], ['left 8', 'gone 2', 'lanes 2', 'logged 2']]
''',
    27: r'''
>>> from ziplanes.text import format_plan, listed, parse_plan
>>> P = ("zip", ("lane", "a", 0, 3), ("zip", ("lane", "b", 0, 2), ("lane", "c", 0, 4)))
>>> [format_plan(P), parse_plan("(a3@12 > b0)"), listed(P, 5, 2)]
['(a3 + (b2 + c4))', ('then', ('lane', 'a', 12, 3), ('lane', 'b', 0, 0)), ['    5 b            1', '    6 c            1']]
''',
}


README = Path(__file__).parent.parent / "README.md"


class Examples(unittest.TestCase):
    def check(self, text, name):
        with self.subTest(name=name):
            told = []
            test = doctest.DocTestParser().get_doctest(text, {}, name, None, 0)
            result = doctest.DocTestRunner(verbose=False).run(test, out=told.append)
            self.assertGreater(result.attempted, 0)
            self.assertEqual(result.failed, 0, "".join(told))

    def test_each_example(self):
        for promise, text in EXAMPLES.items():
            self.check(text, f"[{promise}]")

    def test_readme(self):
        fence = "`" * 3
        blocks = [block for block in README.read_text().split(fence) if ">>>" in block]
        self.assertEqual(len(blocks), 1)
        self.check(blocks[0], "README.md")

    def test_order_of_p(self):
        from ziplanes.places import walk_cars
        plan = ("zip", ("lane", "a", 0, 3), ("zip", ("lane", "b", 0, 2), ("lane", "c", 0, 4)))
        told = " ".join(f"{name}{number}" for name, number in walk_cars(plan))
        self.assertEqual(told, "a0 b0 a1 c0 a2 b1 c1 c2 c3")


if __name__ == "__main__":
    unittest.main()
