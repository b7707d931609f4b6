import unittest

from tablemanners.answers import Both, Only, Unfit
from tablemanners.finding import fitting, manner_of, parted
from tests import oracle
from tests.test_only_both_unfit import SAME, UNFIT, UNLIKE

# Tables and the place at which they part.
PARTED = [
    ([], [], None),
    ([[""]], [[""]], None),
    ([["a", "b"], ["c"]], [["a", "b"], ["c"]], None),
    ([["a" * 8] * 6] * 12, [["a" * 8] * 6] * 12, None),
    # At a cell.
    ([["a", "b"]], [["a", "c"]], (0, 1)),
    ([["a", "b"]], [["c", "b"]], (0, 0)),
    ([["a"], ["b"], ["c"]], [["a"], ["b"], ["d"]], (2, 0)),
    ([["a", "b"], ["c", "d"]], [["a", "b"], ["x", "y"]], (1, 0)),
    ([["a", "x"], ["b"]], [["a", "y"], ["c"]], (0, 1)),
    ([["a" * 8] * 6] * 12, [["a" * 8] * 6] * 11 + [["a" * 8] * 5 + ["a" * 7]], (11, 5)),
    # At a row that is missing in one of them.
    ([], [[""]], (0, 0)),
    ([["a"]], [["a"], [""]], (1, 0)),
    ([["a", "b"], ["c"]], [["a", "b"]], (1, 0)),
    ([["a"]] * 11, [["a"]] * 12, (11, 0)),
    # In the width of a row.
    ([["a", "b"]], [["a"]], (0, 1)),
    ([["a", ""]], [["a"]], (0, 1)),
    ([["a"], ["b", "c"]], [["a"], ["b"], ["c"]], (1, 1)),
    ([["a"] * 6], [["a"] * 5], (0, 5)),
    ([["", ""], ["x"]], [[""], ["y"]], (0, 1)),
]


class Fitting(unittest.TestCase):
    def check(self, text, manners):
        told = fitting(text)
        self.assertIs(type(told), list)
        self.assertEqual(told, manners)
        self.assertTrue(all(type(manner) is tuple for manner in told))

    def test_none(self):
        for text in UNFIT:
            with self.subTest(text=text):
                self.check(text, [])

    def test_told_manners(self):
        for text, manners in SAME:
            with self.subTest(text=text):
                self.check(text, manners)

    def test_several_marks(self):
        self.check("a,b;c\n", oracle.MANNERS[:12])
        self.check(",;|:\n", oracle.MANNERS)
        self.check("a,b:c\nd,e\n", oracle.MANNERS[:6])
        self.check(",;\n;\n", oracle.MANNERS[6:12])

    def test_short_texts(self):
        for text in oracle.texts(",;\"'\\\n", 4):
            text += "\n"
            with self.subTest(text=text):
                self.check(text, list(oracle.tables(text)))

    def test_long_texts(self):
        self.check(",\n" * 100, oracle.MANNERS[:6])
        self.check(",\n" * 99 + "a\n", [])
        self.check("," * 199 + "\n", oracle.MANNERS[:6])


class TheMannerFound(unittest.TestCase):
    def check_only(self, text, manner):
        told = manner_of(text)
        self.assertIs(type(told), Only)
        self.assertEqual(told.manner, manner)
        self.assertIs(type(told.manner), tuple)
        self.assertIs(told.shows(text), True)

    def check_both(self, text, one, other, row, cell):
        told = manner_of(text)
        self.assertIs(type(told), Both)
        self.assertEqual((told.one, told.other, told.row, told.cell), (one, other, row, cell))
        self.assertEqual([type(part) for part in vars(told).values()], [tuple, tuple, int, int])
        self.assertIs(told.shows(text), True)

    def check_unfit(self, text):
        told = manner_of(text)
        self.assertIs(type(told), Unfit)
        self.assertIs(told.shows(text), True)

    def test_unfit(self):
        for text in UNFIT:
            with self.subTest(text=text):
                self.check_unfit(text)

    def test_only(self):
        for text, manners in SAME:
            with self.subTest(text=text):
                self.check_only(text, manners[0])

    def test_both(self):
        for text, one, other, row, cell in [
            ("a,b;c\n", (",", "", ""), (";", "", ""), 0, 0),
            (",;\n", (",", "", ""), (";", "", ""), 0, 0),
            ('a,""\n', (",", "", ""), (",", '"', ""), 0, 1),
            ("a,\\\\\n", (",", "", ""), (",", "", "\\"), 0, 1),
            ("a,b\nc,d\n'e',f\n", (",", "", ""), (",", "'", ""), 2, 0),
            ("a,b\nc,'d'\n", (",", "", ""), (",", "'", ""), 1, 1),
            (",\\,\n", (",", "", ""), (",", "", "\\"), 0, 1),
            ('a|"b|c"|d\n', ("|", "", ""), ("|", '"', ""), 0, 1),
            # The first one that fits is not the first of all, and one that reads the same stands between.
            ('a;"b\nc;d"\n', (";", "", ""), (";", '"', ""), 0, 1),
            (",'\\\\\n'\n", (",", "'", ""), (",", "'", "\\"), 0, 1),
            # A row is missing in one of the tables.
            (",\n,'\n,'\n", (",", "", ""), (",", "'", ""), 1, 1),
            (",a\n'b\n',a\n", (",", "'", ""), None, None, None),
        ]:
            with self.subTest(text=text):
                if other is None:
                    self.check_only(text, one)
                else:
                    self.check_both(text, one, other, row, cell)

    def test_one_that_reads_the_same_between_the_two(self):
        text = "a,'b'\n"
        alike = [manner for manner, rows in oracle.tables(text).items() if rows == [["a", "'b'"]]]
        self.assertEqual(alike, oracle.MANNERS[:4])
        self.check_both(text, (",", "", ""), (",", "'", ""), 0, 1)

    def test_texts_with_unlike_tables(self):
        for text, one, other, place in UNLIKE:
            self.check_against_the_oracle(text)

    def test_short_texts(self):
        for text in oracle.texts(",;\"'\\\n", 4):
            with self.subTest(text=text):
                self.check_against_the_oracle(text + "\n")
                self.check_against_the_oracle(text + ",''\n")

    def check_against_the_oracle(self, text):
        tables = oracle.tables(text)
        if not tables:
            self.check_unfit(text)
            return
        first = next(iter(tables))
        others = [manner for manner in tables if tables[manner] != tables[first]]
        if others:
            self.check_both(text, first, others[0], *oracle.parted(tables[first], tables[others[0]]))
        else:
            self.check_only(text, first)


class Parted(unittest.TestCase):
    def test_told_places(self):
        for one, other, place in PARTED:
            for told in (parted(one, other), parted(other, one)):
                with self.subTest(one=one, other=other):
                    self.assertEqual(told, place)
                    if place is not None:
                        self.assertIs(type(told), tuple)
                        self.assertEqual([type(part) for part in told], [int, int])

    def test_a_table_and_itself(self):
        rows = [["a", "b"], ["c"]]
        self.assertIsNone(parted(rows, rows))

    def test_pairs_of_small_tables(self):
        rows = [["a"], ["b"], [""], ["a", "a"], ["a", "b"], ["", "a"], ["a", "a", ""]]
        tables = [[], *[[one] for one in rows], *[[one, other] for one in rows for other in rows]]
        for one in tables:
            for other in tables:
                self.assertEqual(parted(one, other), oracle.parted(one, other))


if __name__ == "__main__":
    unittest.main()
