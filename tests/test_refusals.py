import itertools
import unittest

from tablemanners.errors import BadManner, BadTable, BadText, BadWide, TooMany, Unread, Unwritable
from tablemanners.finding import fitting, manner_of, parted
from tablemanners.mending import far, mended
from tablemanners.reading import read, survey
from tablemanners.writing import turned, unwritable, written
from tests import oracle
from tests.oracle import PLAIN, QUOTING


class Plain:
    """An object of no kind that is told."""


class EqualToAll:
    """An object that says of everything that it is the same."""

    def __eq__(self, other):
        return True

    def __len__(self):
        return 3

    def __iter__(self):
        return iter((",", "", ""))

    __hash__ = None


class Untouchable:
    """An object that can't be compared, counted, iterated or asked for its truth."""

    def refuse(self, *more):
        raise AssertionError("what is handed in is used before it is looked at")

    __eq__ = __len__ = __iter__ = __bool__ = __hash__ = __contains__ = __getitem__ = __lt__ = __int__ = refuse


ITSELF = []
ITSELF.append(ITSELF)
DEEP = []
for turn in range(5000):
    DEEP = [DEEP]

# What is no text, manner, table or count of cells.
NOTHING = [None, True, False, Ellipsis, NotImplemented, -1, 7, 10 ** 30, -10 ** 30, b"", b"a\n", b",", bytearray(b"a"),
           set(), {","}, frozenset(), range(3), iter([]), len, int, str, Plain, Plain(), EqualToAll(), Untouchable(),
           (None,), (True, False, None), ((),), {}, {"a": "b"}, {0: ["a"]}, {1: None}, [None], [True], [[None]],
           [[True]], [[[]]], [()], [{}], ITSELF, DEEP, ValueError("a"), memoryview(b"a")]
EMPTY = [[], (), ""]
NUMBERS = [0, 1, 2, 6]

BAD_TEXTS = [
    *NOTHING, *NUMBERS, [], (), ["a"], ["\n"], ("a",), ("a", "\n"), [["a"]],
    "A\n", "Z", "a\t", "\r\n", "\r", "\0", "\x0b", "\x1f", "~", "!", "#", "$", "&", "(", ")", "*", "+", "-", ".", "/",
    "<", "=", ">", "?", "@", "[", "]", "^", "_", "`", "{", "}", "%", "a,B\n", "a" * 201, "\n" * 201, "," * 1000,
    "a" * 199 + "A",
]
GOOD_TEXTS = ["", "\n", "a", "abcdefghijklmnopqrstuvwxyz0123456789 ,;|:\"'\\\n", "a" * 200, "\n" * 200]

BAD_MANNERS = [
    *NOTHING, *NUMBERS, *EMPTY, ",", ",\"\\", [",", "", ""], [",", '"', "\\"], (",",), (",", ""), (",", "", "", ""),
    (",", "", "", None), ("", "", ""), (" ", "", ""), ("\n", "", ""), ("\\", "", ""), ('"', "", ""), ("a", "", ""),
    (",,", "", ""), (",;", "", ""), (",", ",", ""), (",", "\\", ""), (",", '""', ""), (",", "\"'", ""), (",", " ", ""),
    (",", "", '"'), (",", "", "\\\\"), (",", "", "/"), (",", "", " "), (",", "\\", '"'), ("", '"', "\\"), ('"', ",", ""),
    (None, "", ""), (",", None, ""), (",", "", None), (True, "", ""), (",", False, ""), (",", "", 0), (0, 0, 0),
    (b",", "", ""), (",", b"", ""), (",", b'"', ""), (",", "", b"\\"), ([","], "", ""), (",", [], ""), (",", "", []),
    (",", (), ""), ((",",), "", ""), (",", {}, ""), (",", "", {}), (",", "", set()), ((",", "", ""),),
    ((",", "", ""), (",", "", ""), (",", "", "")), [(",", "", "")], {",": "", "\"": "", "\\": ""}, (Plain(), "", ""),
    (EqualToAll(), "", ""), (",", EqualToAll(), ""), (",", "", EqualToAll()), (",", Untouchable(), ""),
    (",", "", Untouchable()), (ITSELF, "", ""), (",", DEEP, ""), ("A", "", ""), (",", "`", ""), (",", "", "~"),
]

BAD_ROWS = [
    *NOTHING, *NUMBERS, *EMPTY, "a", "ab", ("a",), ("a", "b"), [1], [b"a"], [["a"]], ["a", None], ["a", 0], ["a", b""],
    ["a", ["b"]], ["a", ("b",)], ["a", {}], ["a", Plain()], [EqualToAll()], [Untouchable()], ["a" * 9], ["", "\n" * 9],
    ["A"], ["a", "\t"], ["~"], ["%"], ["a"] * 7, [""] * 7, ["a"] * 100, ["a", ITSELF], ["a", DEEP],
]
BAD_TABLES = [
    *NOTHING, *NUMBERS, (), "", "a", "a,b\n", ["a"], ["a", "b"], (["a"],), (("a",),), {0: ["a"]}, {"a": ["a"]},
    *[[row] for row in BAD_ROWS], *[[["a"], row] for row in BAD_ROWS], *[[row, ["a"]] for row in BAD_ROWS],
    [["a"]] * 13, [["a"]] * 100, [["a"]] * 12 + [None], [["a"]] * 11 + [["A"]], [["a"] * 6] * 11 + [["a"] * 7],
]
GOOD_TABLES = [[], [[""]], [["a"]], [["a" * 8]], [["a"] * 6], [["a"]] * 12, [["\n" * 8] * 6] * 12, [["a"], ["b", "c"]]]

BAD_WIDES = [
    *NOTHING, 0, 8, 100, *EMPTY, "1", "6", "a", b"1", [1], (1,), (1, 2), {1: 1}, [[1]], 2 ** 64,
]

# Each function, with good arguments, and what is handed in wrongly at each place.
TEXT = (BadText, BAD_TEXTS)
MANNER = (BadManner, BAD_MANNERS)
TABLE = (BadTable, BAD_TABLES)
WIDE = (BadWide, BAD_WIDES)
CALLS = [
    (read, ["a,b\n", PLAIN], [TEXT, MANNER]),
    (survey, ["a,b\n", PLAIN, 2], [TEXT, MANNER, WIDE]),
    (written, [[["a"]], PLAIN], [TABLE, MANNER]),
    (unwritable, [[["a"]], PLAIN], [TABLE, MANNER]),
    (turned, ["a,b\n", PLAIN, QUOTING], [TEXT, MANNER, MANNER]),
    (fitting, ["a,b\n"], [TEXT]),
    (manner_of, ["a,b\n"], [TEXT]),
    (parted, [[["a"]], [["b"]]], [TABLE, TABLE]),
    (far, ["a,b\n", PLAIN, 2], [TEXT, MANNER, WIDE]),
    (mended, ["a,b\n", PLAIN, 2], [TEXT, MANNER, WIDE]),
]


class Refusals(unittest.TestCase):
    def refused(self, error, function, arguments):
        with self.subTest(function=function.__name__):
            try:
                function(*arguments)
            except Exception as raised:
                self.assertIs(type(raised), error)
            else:
                self.fail("not refused")

    def test_one_bad_value(self):
        for function, good, places in CALLS:
            for place, (error, values) in enumerate(places):
                for number, value in enumerate(values):
                    with self.subTest(place=place, number=number):
                        self.refused(error, function, good[:place] + [value] + good[place + 1:])

    def test_of_several_bad_values_the_one_told_first(self):
        for function, good, places in CALLS:
            # Every bad value of one place beside some of the others.
            for first, second in itertools.permutations(range(len(places)), 2):
                error = places[min(first, second)][0]
                for value in places[first][1]:
                    for other in places[second][1][::9]:
                        arguments = list(good)
                        arguments[first] = value
                        arguments[second] = other
                        self.refused(error, function, arguments)
            for values in itertools.product(*[bad[::13] for error, bad in places]):
                self.refused(places[0][0], function, values)

    def test_the_same_bad_value_everywhere(self):
        for function, good, places in CALLS:
            for value in NOTHING:
                self.refused(places[0][0], function, [value] * len(places))

    def test_too_many_signs_to_be_mended(self):
        for function in (far, mended):
            for text in ("a" * 17, "a,b\n" * 5, "\n" * 200, "a" * 17 + "\n"):
                self.refused(TooMany, function, [text, PLAIN, 2])
                for manner in BAD_MANNERS[::4]:
                    self.refused(BadManner, function, [text, manner, 2])
                    self.refused(BadManner, function, [text, manner, 0])
                for wide in BAD_WIDES:
                    self.refused(BadWide, function, [text, PLAIN, wide])
            for text in ("a" * 201, "A" * 17, ["a"] * 17, b"a" * 17):
                self.refused(BadText, function, [text, PLAIN, 2])
            function("a" * 16, PLAIN, 2)

    def test_unread_and_unwritable_come_last(self):
        for manner in BAD_MANNERS:
            self.refused(BadManner, written, [[["a,b"]], manner])
            self.refused(BadManner, turned, ['"', manner, PLAIN])
            self.refused(BadManner, turned, ['"', QUOTING, manner])
            self.refused(BadManner, turned, ['"a,b"\n', QUOTING, manner])
        self.refused(BadTable, written, [[["a,b"], []], PLAIN])
        self.refused(BadTable, unwritable, [[["a,b"], []], PLAIN])
        self.refused(Unread, turned, ['"', QUOTING, PLAIN])
        self.refused(Unwritable, turned, ['"a,b"\n', QUOTING, PLAIN])
        self.refused(Unwritable, written, [[["a,b"]], PLAIN])


class WithinTheLimits(unittest.TestCase):
    def test_texts(self):
        for text in GOOD_TEXTS:
            for manner in oracle.MANNERS:
                read(text, manner)
                survey(text, manner, 3)
            fitting(text)
            manner_of(text)

    def test_every_manner(self):
        for manner in oracle.MANNERS:
            read("a\n", manner)
            survey("a\n", manner, 1)
            written([["a"]], manner)
            unwritable([["a"]], manner)
            turned("a\n", manner, PLAIN)
            turned("a\n", PLAIN, manner)
            far("a\n", manner, 1)
            mended("a\n", manner, 1)

    def test_tables(self):
        for rows in GOOD_TABLES:
            written(rows, QUOTING)
            unwritable(rows, PLAIN)
            parted(rows, [])
            parted([["a"]], rows)

    def test_counts_of_cells(self):
        for wide in range(1, 7):
            survey("a\n", PLAIN, wide)
            far("a\n", PLAIN, wide)
            mended("a\n", PLAIN, wide)

    def test_texts_that_are_mended(self):
        for many in range(17):
            far("a" * many, PLAIN, 1)
            mended("\n" * many, QUOTING, 2)


if __name__ == "__main__":
    unittest.main()
