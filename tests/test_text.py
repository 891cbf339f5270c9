"""[3], [4], [5], [27]: plans as strings, and lists of the cars that leave."""

import itertools
import random
import unittest

from brute import FAR, P, Always, chain, drawn_plans, lane, lane_name, order_of, plan_over, text_in
from wrong import NO_INTEGERS, NO_PLANS, WrongCalls
from ziplanes.errors import InvalidFormatError, InvalidNumberError, InvalidPlanError
from ziplanes.plans import is_plan
from ziplanes.text import format_plan, listed, parse_plan

GREAT = 10 ** 30

NO_TEXTS = [
    "", " ", "a", "3", "@", "a@3", "a-3", "a+3", "a3 ", " a3", "a3\n", "\na3", "a 3", "3a", "a3b", "a3b4", "A3", "aB3",
    "abcdefghi3", "a3.0", "a1e3", "a1_0", "a_1", "a 1", "a3@", "a3@a", "a3@ 1", "a3 @1", "a@1", "a3@1@2", "a3@@1", "@a3",
    "a03", "a00", "a3@0", "a3@00", "a3@01", "a0@0", "a-0", "a3@-1", "a3@+1", "a+0",
    "()", "(a3)", "(a3 + )", "( + b2)", "(a3 b2)", "(a3  b2)", "(a3+b2)", "(a3 +b2)", "(a3+ b2)", "(a3  + b2)",
    "(a3 +  b2)", "( a3 + b2)", "(a3 + b2 )", " (a3 + b2)", "(a3 + b2) ", "(a3 + b2)\n", "(a3\n+ b2)", "(a3 +\nb2)",
    "(a3 + b2", "a3 + b2)", "a3 + b2", "(a3 + b2))", "((a3 + b2)", "((a3 + b2))", "(a3) + (b2)", "(a3 + b2 + c4)",
    "(a3 + b2) + c4", "(a3 + b2) + (c4 + d5)", "(a3 + b2)(c4 + d5)", "(a3 + b2)c4", "a3(b2 + c4)", "a3 b2", "(a3 + b2) c4",
    "(+ a3 b2)", "(a3 b2 +)", "(+ + +)", "(a3 + +)", "(+ + b2)", "+", ">", "(", ")", ")(", "())", "(()", "(() + a3)",
    "(a3 - b2)", "(a3 * b2)", "(a3 < b2)", "(a3 >> b2)", "(a3 ++ b2)", "(a3 zip b2)", "(a3 then b2)", "(a3 , b2)",
    "[a3 + b2]", "{a3 + b2}", "(a3 + b2>", "(a3 + a2)", "((a3 + b2) + b0@5)", "(a3 + (b2 > a0))", "('lane', 'a', 0, 3)",
    "(a3 + b02)", "(a3@0 + b2)", "(a03 > b2)", "(a3 + B2)", "zip", "lane", "(zip + then)", "a3;", "a3#", "a3)", "(a3",
    "\u0663", "a\u0663", "a\u00b2", "a3@\u0663", "\u00e93", "a3\u00a0", "(a3\u00a0+ b2)", "\x00", "a3\x00", "a3\t", "a3\r",
    "(a3\t+ b2)",
]
NO_STRINGS = [None, True, 0, 3, b"a3", b"", [], ["a3"], ("a3",), {}, object(), Always(), P, lane("a", 3), 1.5, len]
LONG = [
    "(" * 4000, ")" * 4000, "(" * 2000 + ")" * 2000, "a" * 4000, " " * 4000, "+" * 4000, "@" * 4000, "\n" * 4000,
    "(a1 + " * 600, "(a1 + " * 500 + "b1" + ")" * 500, "(" * 500 + "a1" + " + b1)" * 500, "() " * 1300, "a1 + " * 800,
    "(a1 + b1)" * 400, "(" * 40 + "a1" + ")" * 40, "a1 " * 1300, "((" + "a1 + b1" + ")" * 3990,
]


class Texts(WrongCalls):
    def check(self, plan, text):
        self.assertEqual(format_plan(plan), text)
        self.assertEqual(parse_plan(text), plan)
        self.assertTrue(is_plan(parse_plan(text)))

    def test_lanes(self):
        for text, plan in [
            ("a0", lane("a", 0)), ("a3", lane("a", 3)), ("a10", lane("a", 10)), ("a3@12", lane("a", 3, 12)),
            ("a0@1", lane("a", 0, 1)), ("a100@100", lane("a", 100, 100)), ("abcdefgh9", lane("abcdefgh", 9)),
            ("zip1", lane("zip", 1)), ("then1@2", lane("then", 1, 2)), ("l0", lane("l", 0)),
        ]:
            self.check(plan, text)

    def test_merges(self):
        self.check(("zip", lane("a", 3), lane("b", 2)), "(a3 + b2)")
        self.check(("then", lane("a", 3, 12), lane("b", 0)), "(a3@12 > b0)")
        self.check(("then", ("zip", lane("a", 1), lane("b", 2)), ("then", lane("c", 3), lane("d", 4, 5))),
                   "((a1 + b2) > (c3 > d4@5))")
        self.check(P, "(a3 + (b2 + c4))")

    def test_against_the_definition(self):
        for plan in drawn_plans(61, 400, most_lanes=8, most_cars=120):
            self.check(plan, text_in(plan))

    def test_great_numbers(self):
        self.check(lane("a", GREAT, GREAT), "a1" + "0" * 30 + "@1" + "0" * 30)
        self.check(lane("a", 10 ** 31 - 1, 10 ** 31 - 1), "a" + "9" * 31 + "@" + "9" * 31)
        self.check(FAR, f"(a{GREAT} + (b5 + c{10 ** 20}))")

    def test_forty_lanes(self):
        for left in [True, False]:
            for kind in ["zip", "then"]:
                plan = chain(40, GREAT, left, kind)
                self.check(plan, text_in(plan))
                self.wrong(InvalidFormatError, parse_plan, text_in(chain(41, 0, left, kind)))
        source = random.Random(62)
        lanes = [lane("lane" + lane_name(at), 10 ** 31 - 1 - at, 10 ** 30 + at) for at in range(41)]
        for _ in range(20):
            plan = plan_over(source, lanes[:40])
            self.check(plan, text_in(plan))
            self.wrong(InvalidFormatError, parse_plan, text_in(plan_over(source, lanes)))

    def test_no_strings_of_plans(self):
        for text in NO_TEXTS + NO_STRINGS + LONG:
            self.wrong(InvalidFormatError, parse_plan, text)

    def test_spaces_and_brackets_around(self):
        for text in ["a3", "(a3 + b2)", "((a3 + b2) > (c4 + d1@7))"]:
            parse_plan(text)
            for at in range(len(text) + 1):
                for sign in [" ", "(", ")", "\n", "@", "+", "  ", "()"]:
                    self.wrong(InvalidFormatError, parse_plan, text[:at] + sign + text[at:])

    def test_all_short_strings(self):
        for many in range(6):
            for signs in itertools.product("ab01@", repeat=many):
                self.parsed_exactly("".join(signs))
        for signs in itertools.product(["a1", "b0", "(", ")", " ", "+", ">"], repeat=5):
            self.parsed_exactly("".join(signs))

    def parsed_exactly(self, text):
        """Whether the string is one of a plan; if so, it must be the one of the plan that was read."""
        try:
            plan = parse_plan(text)
        except InvalidFormatError:
            return False
        self.assertTrue(is_plan(plan))
        self.assertEqual(text_in(plan), text)
        return True

    def test_changed_strings(self):
        source = random.Random(63)
        told = {True: 0, False: 0}
        for plan in drawn_plans(64, 500, most_cars=30):
            for _ in range(10):
                text = text_in(plan)
                at = source.randrange(len(text))
                end = at + source.randint(0, 2)
                changed = text[:at] + source.choice(["", *"ab019@ ()+>"]) + text[end:]
                told[self.parsed_exactly(changed)] += 1
        self.assertGreater(min(told.values()), 300)

    def test_format_of_wrong_plans(self):
        for value in NO_PLANS + ["a3", "(a3 + b2)"]:
            self.wrong(InvalidPlanError, format_plan, value)

    def test_by_name(self):
        self.assertEqual(format_plan(plan=P), "(a3 + (b2 + c4))")
        self.assertEqual(parse_plan(text="(a3 + (b2 + c4))"), P)
        self.assertEqual(listed(count=1, first=5, plan=P), ["    5 b            1"])


class Listed(WrongCalls):
    def test_against_the_orders(self):
        for plan in drawn_plans(65, 60, most_cars=9):
            order = order_of(plan)
            rows = []
            for place, (name, number) in enumerate(order):
                rows.append(str(place).rjust(5) + " " + name.ljust(9) + str(number).rjust(5))
            for first in range(len(order) + 1):
                for count in range(len(order) - first + 1):
                    self.assertEqual(listed(plan, first, count), rows[first:first + count])

    def test_columns(self):
        plan = ("then", lane("abcdefgh", 1, 99999), lane("z", 1, 100000))
        self.assertEqual(listed(plan, 0, 2), ["    0 abcdefgh 99999", "    1 z        100000"])
        self.assertEqual(listed(lane("a", 100001), 99999, 2), ["99999 a        99999", "100000 a        100000"])
        self.assertEqual(listed(lane("ab", GREAT, 7), GREAT - 1, 1), ["9" * 30 + " ab       1" + "0" * 29 + "6"])

    def test_no_cars(self):
        for first in [0, 4, 9]:
            self.assertEqual(listed(P, first, 0), [])
        self.assertEqual(listed(lane("a", 0, 5), 0, 0), [])

    def test_400_cars(self):
        for plan in [FAR, lane("a", 400), lane("a", 1000)]:
            rows = listed(plan, 0, 400)
            self.assertEqual(len(rows), 400)
            self.assertEqual(rows[399][:6], "  399 ")
        self.assertEqual(listed(lane("a", GREAT), GREAT - 400, 400)[-1], "9" * 30 + " a        " + "9" * 30)

    def test_wrong_numbers(self):
        for number in NO_INTEGERS + [10, GREAT]:
            for arguments in [(P, number, 0), (P, number, 1), (P, 0, number), (P, number, number)]:
                self.wrong(InvalidNumberError, listed, *arguments)
        for arguments in [(P, 9, 1), (P, 5, 5), (FAR, 0, 401), (lane("a", 400), 1, 400), (lane("a", 0), 1, 0),
                          (lane("a", 0), 0, 1), (lane("a", 401), 0, 401)]:
            self.wrong(InvalidNumberError, listed, *arguments)

    def test_plan_is_checked_first(self):
        for value in NO_PLANS:
            self.wrong(InvalidPlanError, listed, value, -1, None)

    def test_new_lists(self):
        rows = listed(P, 0, 9)
        self.assertIs(type(rows), list)
        rows.clear()
        self.assertEqual(len(listed(P, 0, 9)), 9)


if __name__ == "__main__":
    unittest.main()
