"""Values that are of the wrong kind or out of range, and how to test that they are refused."""

import unittest

from brute import P, Always, chain, lane


class OddTuple(tuple):
    """A kind of its own, not exactly a tuple."""


class OddList(list):
    """A kind of its own, not exactly a list."""


NO_PLANS = [
    None, True, 0, "lane", b"lane", (), [], {}, object(), Always(), len, 1.5,
    ["lane", "a", 0, 3], ("lane", "a", True, 3), ("lane", "a", 0, False), ("lane", "a", -1, 3), ("lane", "a", 0, -1),
    ("lane", "A", 0, 3), ("zip", lane("a", 1), lane("a", 2)), ("zip", lane("a", 1)), list(P), chain(41, 1),
]
# Names that no lane has, and names that no lane of P has.
NO_NAMES = [
    "", "A", "aB", "abcdefghi", "a1", "a ", "a\n", "\u00e9", b"a", None, 0, True, ["a"], ("a",), {"a": 1}, Always(),
    lane("a", 3),
]
NO_NAMES_OF_P = NO_NAMES + ["d", "ab"]
# Cars of no plan, and cars that P does not have.
NO_CARS = [
    ("a", -1), ("a", True), ("a", False), ("a", "0"), ("a", 0.0), ("a", None), ("a", Always()), ["a", 0], ("a",),
    ("a", 0, 0), (0, "a"), (["a"], 0), (None, 0), (b"a", 0), ("A", 0), ("", 0), ("abcdefghi", 0), ("a1", 0), ("a\n", 0),
    ("\u00e9", 0), (Always(), 0), OddTuple(("a", 0)), "a0", "a", None, 0, True, 1.5, (), [], {"a": 0}, lane("a", 0),
    object(), Always(),
]
NO_CARS_OF_P = NO_CARS + [("a", 3), ("b", 2), ("c", 4), ("d", 0), ("a", 10 ** 30)]
NO_INTEGERS = [True, False, None, "1", b"1", 1.0, [1], (1,), (), {}, Always(), -1]
ROW = [lane("a", 3), lane("b", 2), lane("c", 4)]
LETTERS = "abcdefghijklm"
NO_ROWS = [
    None, True, 0, "a", (), [], {}, object(), Always(), tuple(ROW), OddList(ROW), lane("a", 1), [P], [lane("a", 1), P],
    [lane("a", 1), lane("a", 2)], [lane("a", 1), lane("b", 2), lane("a", 0, 9)], [lane(name, 0) for name in LETTERS],
    [list(lane("a", 1))], [lane("a", True)], [lane("a", 1, False)], [lane("a", -1)], [lane("A", 1)], ["a"], [None],
    [[]], [()], [Always()], [lane(Always(), 1)], [lane("a", 1), None], {"a": lane("a", 1)}, [lane(["a"], 1)],
]
NO_LABELS = [
    None, True, 0, "abc", (), [], {}, object(), Always(), ("a",), OddList(["a"]), ["a"] * 101, list("abcdefghi"), ["A"],
    [""], ["abcdefghi"], ["a", 1], ["a", True], ["a", None], ["a", b"a"], [["a"]], [("a",)], ["a1"], ["a", "\u00e9"],
    [Always()], ["a b"], {"a": 1}, [["a"], "a"], [lane("a", 1)],
]
NO_SHAPES = [
    None, True, 0, b"l", (), [], ["l"], {}, object(), Always(), "", "z", "zl", "ll", "lz", "lzl", "zlll", "zllz", "zzll",
    "L", "ZLL", "a", " l", "l ", "zl l", "l\n", "zlx", "1", "z" * 4000, "l" * 4000, "zl" * 2000,
    "tll", "ztlll", "zltll", "tzlll", "t", "tl", "zl" * 8 + "l", "z" * 8 + "l" * 9, "zl" * 39 + "l", "zl" * 40 + "l",
]


class WrongCalls(unittest.TestCase):
    def wrong(self, error, function, *arguments, **more):
        with self.subTest(function=function, arguments=arguments, more=more):
            with self.assertRaises(error) as caught:
                function(*arguments, **more)
            self.assertIs(type(caught.exception), error)
