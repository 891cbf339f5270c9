"""[3], [15], [16]: trees over rows, their order, and the places in them."""

import random
import unittest
from collections import Counter

from brute import lane, lanes_in, order_of, trees_over
from ziplanes.places import place_of
from ziplanes.plans import is_plan, lanes_of
from ziplanes.rows import (
    count_trees, count_with_place, earliest_place, earliest_tree, latest_place, nth_tree, possible_places, tree_rank,
)

GREAT = 10 ** 30
COUNTS = [1, 1, 2, 5, 14, 42, 132, 429, 1430, 4862, 16796, 58786]


def row_of(numbers, first=0):
    return [lane("abcdefghijkl"[at], many, first) for at, many in enumerate(numbers)]


def drawn_rows(seed, many, most_lanes=6, most_cars=6):
    source = random.Random(seed)
    for _ in range(many):
        names = source.sample("abcdefghijkl", source.randint(1, most_lanes))
        yield [lane(name, source.randint(0, most_cars), source.choice((0, 0, 5))) for name in names]


class Trees(unittest.TestCase):
    def test_numbers_of_trees(self):
        self.assertEqual([count_trees(lanes) for lanes in range(1, 13)], COUNTS)
        for lanes in range(1, 8):
            self.assertEqual(len(trees_over(row_of([1] * lanes))), COUNTS[lanes - 1])

    def test_all_trees_in_ascending_order(self):
        for row in [row_of([2, 0, 3, 1, 0, 5, 1][:lanes]) for lanes in range(1, 8)] + list(drawn_rows(41, 10)):
            trees = sorted(trees_over(row))
            self.assertEqual([nth_tree(row, index) for index in range(len(trees))], trees)
            self.assertEqual([tree_rank(tree) for tree in trees], list(range(len(trees))))

    def test_order_does_not_depend_on_names(self):
        for names in ["zip", "dcba", "azby"]:
            row = [lane(name, 1) for name in names]
            trees = sorted(trees_over(row))
            self.assertEqual([nth_tree(row, index) for index in range(len(trees))], trees)
        row = [lane("zip", 0), lane("lane", 2), lane("then", 1)]
        self.assertEqual([nth_tree(row, index) for index in range(2)], sorted(trees_over(row)))

    def test_one_lane(self):
        self.assertEqual(nth_tree([lane("a", 0, 3)], 0), lane("a", 0, 3))
        self.assertEqual(tree_rank(lane("a", GREAT)), 0)

    def test_twelve_lanes(self):
        row = row_of([GREAT, 0, 5, GREAT, 1, 2, 3, 0, 0, 9, 9, GREAT])
        seen = []
        for index in list(range(0, 58786, 997)) + [58785]:
            tree = nth_tree(row, index)
            self.assertTrue(is_plan(tree))
            self.assertEqual(lanes_of(tree), row)
            self.assertEqual(tree_rank(tree), index)
            seen.append(tree)
        self.assertEqual(seen, sorted(seen))
        first, last = row[-1], row[0]
        for at in range(1, 12):
            first, last = ("zip", row[-1 - at], first), ("zip", last, row[at])
        self.assertEqual([seen[0], seen[-1]], [first, last])

    def test_arguments_do_not_change(self):
        row = row_of([1, 2, 3])
        kept = list(row)
        nth_tree(row, 1)
        earliest_tree(row, ("a", 0))
        possible_places(row, ("b", 1))
        self.assertEqual(row, kept)


class Places(unittest.TestCase):
    def check(self, row):
        trees = trees_over(row)
        orders = [order_of(tree) for tree in trees]
        for car in orders[0]:
            told = Counter(order.index(car) for order in orders)
            places = sorted(told)
            self.assertEqual(earliest_place(row, car), places[0])
            self.assertEqual(latest_place(row, car), places[-1])
            self.assertEqual(possible_places(row, car), places)
            counts = [count_with_place(row, car, place) for place in range(len(orders[0]))]
            self.assertEqual(counts, [told[place] for place in range(len(orders[0]))])
            tree = earliest_tree(row, car)
            self.assertIn(tree, trees)
            self.assertEqual(order_of(tree).index(car), places[0])

    def test_tree_by_tree(self):
        for row in drawn_rows(42, 80, most_lanes=5):
            self.check(row)
        for row in drawn_rows(43, 6, most_lanes=7, most_cars=4):
            self.check(row)

    def test_lanes_of_very_different_lengths(self):
        self.check(row_of([20, 1, 0, 9, 2], 3))
        self.check(row_of([0, 0, 12, 0, 0]))
        self.check(row_of([1, 17, 1, 1, 6]))

    def test_one_lane(self):
        row = [lane("a", 3, 4)]
        for number in range(4, 7):
            car = ("a", number)
            self.assertEqual(earliest_place(row, car), number - 4)
            self.assertEqual(latest_place(row, car), number - 4)
            self.assertEqual(possible_places(row, car), [number - 4])
            self.assertEqual(earliest_tree(row, car), row[0])
            self.assertEqual([count_with_place(row, car, place) for place in range(3)],
                             [int(place == number - 4) for place in range(3)])

    def test_a_lane_alone_among_empty_ones(self):
        row = row_of([0, 0, 0, GREAT, 0, 0, 0, 0, 0, 0, 0, 0])
        car = ("d", GREAT - 1)
        self.assertEqual(possible_places(row, car), [GREAT - 1])
        self.assertEqual(count_with_place(row, car, GREAT - 1), 58786)
        self.assertEqual(count_with_place(row, car, 0), 0)

    def test_two_great_lanes(self):
        row = row_of([GREAT, GREAT])
        for number in [0, 1, GREAT - 1]:
            self.assertEqual(possible_places(row, ("a", number)), [2 * number])
            self.assertEqual(possible_places(row, ("b", number)), [2 * number + 1])

    def test_twelve_great_lanes(self):
        row = row_of([GREAT - 7 ** at for at in range(12)], 5)
        size = sum(way[3] for way in row)
        for at in [0, 4, 11]:
            for number in [0, 1, GREAT // 3, GREAT - 7 ** at - 1]:
                car = (row[at][1], 5 + number)
                places = possible_places(row, car)
                self.assertEqual(places, sorted(set(places)))
                self.assertEqual([earliest_place(row, car), latest_place(row, car)], [places[0], places[-1]])
                self.assertEqual(sum(count_with_place(row, car, place) for place in places), 58786)
                tree = earliest_tree(row, car)
                self.assertEqual(lanes_in(tree), row)
                self.assertTrue(0 <= tree_rank(tree) < 58786)
                self.assertEqual(place_of(tree, car), places[0])
                for index in range(0, 58786, 4999):
                    self.assertIn(place_of(nth_tree(row, index), car), places)
                for place in [0, size - 1]:
                    self.assertEqual(count_with_place(row, car, place) > 0, place in places)

    def test_first_and_last_place(self):
        row = row_of([2, 0, 3])
        self.assertEqual(count_with_place(row, ("a", 0), 0), 2)
        self.assertEqual(count_with_place(row, ("c", 2), 4), 2)
        self.assertEqual(count_with_place(row, ("c", 2), 0), 0)

    def test_new_lists(self):
        row = row_of([3, 2, 4])
        places = possible_places(row, ("b", 1))
        self.assertIs(type(places), list)
        places.clear()
        self.assertEqual(possible_places(row, ("b", 1)), [5, 6])


if __name__ == "__main__":
    unittest.main()
