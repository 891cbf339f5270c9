"""[2] over all files, and that the files agree with one another."""

import random
import unittest

from brute import (
    P, chain, drawn_plan, drawn_plans, lane, lane_name, lanes_in, names_in, order_of, plan_over, shape_in, shapes_with,
)
from ziplanes.delays import delay_of, first_delayed, greatest_delay
from ziplanes.labels import labels_of, plan_with, plans_with, shape_of
from ziplanes.live import CountingRoad, LiveRoad, LoggedCountingRoad, LoggedRoad
from ziplanes.places import (
    car_at, cars_within, ends_of, first_difference, pieces_of, place_of, walk_cars,
)
from ziplanes.plans import is_plan, joined, lanes_of, path_of, rest_after, size_of
from ziplanes.roads import Lane, Road, Then, Zip
from ziplanes.rows import earliest_place, earliest_tree, nth_tree, possible_places, tree_rank
from ziplanes.text import format_plan, listed, parse_plan

GREAT = 10 ** 30


def on_the_path(path, many, source):
    """A road in which a lane x has this path, the other sides merged in a way drawn from a seeded source."""
    road = Lane("x", many)
    for at, (kind, side, other) in enumerate(path):
        cuts = sorted(source.randint(0, other) for _ in range(2))
        sizes = [cuts[0], cuts[1] - cuts[0], other - cuts[1]]
        beside = Road(plan_over(source, [lane("abc"[index] + "defgh"[at], size) for index, size in enumerate(sizes)]))
        merge = Zip if kind == "zip" else Then
        road = merge(road, beside) if side == 1 else merge(beside, road)
    return road


def zips_above_meeting(plan, one, two):
    """The number of the zips above the merge at which two lanes meet, told by their paths."""
    path, other = path_of(plan, one), path_of(plan, two)
    shared = 0
    while path[-1 - shared] == other[-1 - shared]:
        shared += 1
    return [merge[0] for merge in path[len(path) - shared:]].count("zip")


def drawn_calls(source, live, many=12):
    """Lets cars leave and arrive, as drawn from a seeded source."""
    for _ in range(many):
        left = size_of(live.plan)
        word = source.choice(["go", "skip", "arrive", "undo"])
        if word == "go":
            live.go(min(left, source.randint(0, 4)))
        elif word == "skip":
            live.skip(min(left, source.randint(0, 3)))
        elif word == "arrive":
            live.arrive(source.choice(lanes_in(live.plan))[1], source.randint(0, 4))
        elif len(live) > 0:
            live.undo()


class Guarantees(unittest.TestCase):
    def test_a_place_depends_only_on_the_path(self):
        source = random.Random(91)
        for _ in range(60):
            path = [(source.choice(["zip", "then"]), source.choice([1, 2]), source.randint(0, 7))
                    for _ in range(source.randint(0, 4))]
            rows = []
            for _ in range(4):
                road = on_the_path(path, 6, source)
                self.assertEqual(path_of(road.plan, "x"), path)
                live = LiveRoad(road.plan)
                rows.append([live.ahead_of(("x", number)) for number in range(6)])
                self.assertEqual([place_of(road.plan, ("x", number)) for number in range(6)], rows[-1])
                self.assertEqual([place for place, car in enumerate(road.cars()) if car[0] == "x"], rows[-1])
            self.assertEqual(rows, [rows[0]] * 4)

    def test_what_is_left_is_a_plan_again(self):
        source = random.Random(92)
        for _ in range(60):
            live = LoggedCountingRoad(drawn_plan(source))
            drawn_calls(source, live)
            for plan in [live.plan, *(Road(live.plan).rest(count).plan for count in range(size_of(live.plan) + 1))]:
                self.assertTrue(is_plan(plan))
                self.assertEqual(parse_plan(format_plan(plan)), plan)
                self.assertEqual(LiveRoad(plan).plan, plan)
                self.assertEqual(shape_of(plan).count("l"), len(lanes_of(plan)))
        live = LiveRoad(chain(40, GREAT))
        for at in range(40):
            live.skip(GREAT)
            live.arrive(lane_name(at), at)
            self.assertTrue(is_plan(live.plan))
            self.assertEqual(Road.read(format_plan(live.plan)).plan, live.plan)

    def test_distances_never_get_greater(self):
        for plan in drawn_plans(93, 60, most_cars=12):
            live = LoggedRoad(plan)
            live.go(size_of(plan))
            for row in lanes_of(plan):
                places = [place for place, car in enumerate(live.log) if car[0] == row[1]]
                steps = [behind - place for place, behind in zip(places, places[1:])]
                self.assertEqual(steps, sorted(steps, reverse=True))
                self.assertEqual([piece[1] for piece in pieces_of(plan, row[1])][:1], places[:1])

    def test_every_place_of_a_power_of_two(self):
        plan = chain(6, GREAT)
        live = LoggedRoad(plan)
        live.go(100)
        live.go(100)
        for row in lanes_of(plan):
            zips = [merge[0] for merge in path_of(plan, row[1])].count("zip")
            places = [place for place, car in enumerate(live.log) if car[0] == row[1]]
            self.assertEqual(places, list(range(places[0], 200, 2 ** zips)))
            self.assertEqual(pieces_of(plan, row[1])[0][2], 2 ** zips)
            self.assertEqual(Road(plan)(places[0] + 2 ** zips * 10 ** 20), (row[1], 10 ** 20))

    def test_who_joins_delays_others_by_a_limited_number(self):
        source = random.Random(94)
        for _ in range(80):
            live = LiveRoad(drawn_plan(source))
            drawn_calls(source, live, 5)
            plan = live.plan
            for row in lanes_of(plan):
                many = source.randint(0, 4)
                later = live.twin()
                later.arrive(row[1], many)
                delays = {car: later.ahead_of(car) - live.ahead_of(car) for car in Road(plan).cars()}
                for car, delay in delays.items():
                    self.assertEqual(delay_of(plan, car, row[1], many), delay)
                    if car[0] == row[1]:
                        self.assertEqual(delay, 0)
                    else:
                        self.assertTrue(0 <= delay <= many * 2 ** zips_above_meeting(plan, car[0], row[1]))
                first = [car for car, delay in delays.items() if delay > 0][:1]
                self.assertEqual(first_delayed(plan, row[1], many), first[0] if first else None)
                self.assertEqual(greatest_delay(plan, row[1], many), max([0, *delays.values()]))

    def test_at_most_one_plan_for_a_shape_and_an_order_of_names(self):
        source = random.Random(95)
        for _ in range(60):
            lanes = [lane(name, source.randint(1, 6)) for name in source.sample("abcdef", source.randint(1, 5))]
            road = Road(plan_over(source, lanes, ["zip"]))
            live = LoggedRoad(road.plan)
            live.go(road.size)
            labels = [name for name, _ in live.log]
            self.assertEqual(plan_with(shape_of(road.plan), labels), road.plan)
            plans = plans_with(labels)
            self.assertIn(road.plan, plans)
            self.assertEqual(len(set(shape_of(plan) for plan in plans)), len(plans))
            for plan in plans:
                self.assertEqual([car[0] for car in Road(plan).cars()], labels)

    def test_exactly_one_plan_if_all_cars_have_different_names(self):
        for many in range(1, 7):
            labels = list("fbdaec"[:many])
            for shape in shapes_with(many):
                plan = plan_with(shape, labels)
                self.assertEqual(shape_of(parse_plan(format_plan(plan))), shape)
                self.assertEqual([car[0] for car in LiveRoad(plan).peek(many)], labels)


class Agreement(unittest.TestCase):
    def test_places(self):
        for plan in drawn_plans(96, 100, most_lanes=7):
            road, live, order = Road(plan), LiveRoad(plan), order_of(plan)
            self.assertEqual([list(walk_cars(plan)), list(road.cars()), live.peek(len(order))], [order] * 3)
            rows = [[row.split() for row in listed(plan, 0, len(order))]]
            self.assertEqual(rows, [[[str(at), name, str(number)] for at, (name, number) in enumerate(order)]])
            self.assertEqual(labels_of(plan, len(order)), names_in(plan))
            for place, car in enumerate(order):
                self.assertEqual([place_of(plan, car), live.ahead_of(car)], [place, place])
                self.assertEqual([car_at(plan, place), road(place)], [car, car])
                self.assertIn(car, road)
            for place, name in ends_of(plan):
                self.assertEqual(road(place)[0], name)
                self.assertNotIn((name, road(place)[1] + 1), road)

    def test_what_is_left(self):
        for plan in drawn_plans(97, 60):
            for count in range(size_of(plan) + 1):
                live = CountingRoad(plan)
                live.skip(count)
                rest = rest_after(plan, count)
                self.assertEqual([live.plan, Road(plan).rest(count).plan], [rest, rest])
                self.assertEqual(live.counts, cars_within(plan, count))
                self.assertEqual(list(Road(rest).cars()), list(walk_cars(plan, count)))
                self.assertEqual(live.counts, sorted(
                    (row[1], row[2] - before[1]) for row, before in zip(
                        sorted(lanes_of(rest), key=lambda row: row[1]),
                        sorted((row[1], row[2]) for row in lanes_of(plan)),
                    )
                ))

    def test_arrivals(self):
        source = random.Random(98)
        for _ in range(60):
            live = LoggedCountingRoad(drawn_plan(source))
            drawn_calls(source, live)
            plan = live.plan
            name, many = source.choice(lanes_of(plan))[1], source.randint(1, 5)
            live.arrive(name, many)
            self.assertEqual(live.plan, joined(plan, name, many))
            first = first_delayed(plan, name, many)
            place = first_difference(plan, live.plan)
            self.assertLessEqual(place, size_of(plan) if first is None else place_of(plan, first))
            self.assertEqual(LiveRoad(live.plan).peek(min(place, 100)), LiveRoad(plan).peek(min(place, 100)))

    def test_order_of_all_cars_that_leave(self):
        source = random.Random(99)
        for _ in range(40):
            plan = drawn_plan(source)
            live = LoggedCountingRoad(plan)
            while size_of(live.plan) > 0:
                live.go(min(size_of(live.plan), source.randint(0, 3)))
            self.assertEqual(live.log, list(walk_cars(plan)))
            self.assertEqual(live.counts, cars_within(plan, size_of(plan)))
            self.assertIsNone(first_difference(live.plan, lane("z", 0)))
            self.assertEqual(live.report()[0], "left 0")

    def test_strings(self):
        for plan in drawn_plans(100, 60):
            text = format_plan(plan)
            self.assertEqual(Road.read(text), Road(plan))
            self.assertEqual(format_plan(Road.read(text).plan), text)
            signs = "".join(sign for sign in text if sign in "+>")
            kinds = shape_of(plan).replace("l", "")
            self.assertEqual(sorted(signs), sorted(kinds.replace("z", "+").replace("t", ">")))
            self.assertEqual(text.count("("), len(Road(plan)) - 1)

    def test_rows(self):
        row = lanes_of(P)
        for car in Road(P).cars():
            tree = earliest_tree(row, car)
            self.assertEqual(LiveRoad(tree).ahead_of(car), earliest_place(row, car))
            self.assertEqual(nth_tree(row, tree_rank(tree)), parse_plan(format_plan(tree)))
            places = [LiveRoad(nth_tree(row, index)).ahead_of(car) for index in range(2)]
            self.assertEqual(sorted(set(places)), possible_places(row, car))
        one, two, three = [Road(part) for part in row]
        self.assertEqual([nth_tree(row, 0), nth_tree(row, 1)], [(one + (two + three)).plan, ((one + two) + three).plan])

    def test_operators_and_shapes(self):
        source = random.Random(101)
        for plan in drawn_plans(102, 40):
            road = Road(plan) + Lane("y", 3) if source.random() < 0.5 else Lane("y", 3) >> Road(plan)
            self.assertEqual(shape_of(road.plan), shape_in(road.plan))
            self.assertEqual(road.names, [row[1] for row in lanes_of(road.plan)])
            self.assertEqual(len(list(road.cars())), road.size)

    def test_forty_great_lanes(self):
        for kind in ["zip", "then"]:
            plan = chain(40, GREAT, kind == "zip", kind)
            road, live = Road(plan), LoggedCountingRoad(plan)
            self.assertEqual(Road.read(format_plan(plan)), road)
            live.skip(17 * GREAT + 5)
            self.assertEqual(live.plan, road.rest(17 * GREAT + 5).plan)
            self.assertEqual(live.counts, cars_within(plan, 17 * GREAT + 5))
            cars = live.peek(100)
            self.assertEqual([place_of(plan, car) for car in cars], list(range(17 * GREAT + 5, 17 * GREAT + 105)))
            self.assertEqual([row.split()[1] for row in listed(plan, 17 * GREAT + 5, 100)], [car[0] for car in cars])
            for car in cars:
                delay = delay_of(live.plan, car, lane_name(20), GREAT)
                later = live.twin()
                later.arrive(lane_name(20), GREAT)
                self.assertEqual(later.ahead_of(car) - live.ahead_of(car), delay)


if __name__ == "__main__":
    unittest.main()
