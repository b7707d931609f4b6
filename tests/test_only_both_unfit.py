import unittest

from tablemanners.answers import Both, Only, Unfit
from tablemanners.fits import unlike_at
from tests import oracle

COMMAS = oracle.MANNERS[:6]
SEMICOLONS = oracle.MANNERS[6:12]
NO_MANNERS = [("", "", ""), (",", "\\", ""), ("a", "", ""), (",", "", '"'), (",", '"', "'"), ("\n", "", ""),
              (",,", "", ""), (";", ",", ""), ("", '"', "\\"), (",", "", "\\\\")]

UNFIT = ["", "\n", "a\n", "a,b", "a\nb\n", "a,b\nc\n", "a,b\nc,d,e\n", "a,b\n\n", "\na,b\n", '"a\n', "a b c\n",
         "a;b\nc|d\n", "a,b\nc,d", "\\,\n,,\n", "'", "\\"]

# Texts that fit, the manners that fit them, all with the same table.
SAME = [
    (',"\\\n"\n', [(",", '"', "")]),
    (",\\,\n,\n", [(",", "", "\\")]),
    (",\n,\\,\n", [(",", "", "\\")]),
    ('a,"\n"\n', [(",", '"', ""), (",", '"', "\\")]),
    ("a:b\nc:d\n", oracle.MANNERS[18:]),
    ("a,b\n", COMMAS),
    (";\n", SEMICOLONS),
    ("a|b|c\n1|2|3\n", oracle.MANNERS[12:18]),
    ("a;b'\n", [(";", "", ""), (";", "", "\\"), (";", '"', ""), (";", '"', "\\")]),
]

# Texts that fit with unlike tables, and places at which the tables of two manners part.
UNLIKE = [
    ("a,b;c\n", (",", "", ""), (";", "", ""), (0, 0)),
    ("a,b;c\n", (",", "'", "\\"), (";", '"', ""), (0, 0)),
    ('a,""\n', (",", "", ""), (",", '"', ""), (0, 1)),
    ('a,""\n', (",", "'", "\\"), (",", '"', "\\"), (0, 1)),
    ("a,\\\\\n", (",", "", ""), (",", "", "\\"), (0, 1)),
    ("a,b\nc,d\n'e',f\n", (",", "", ""), (",", "'", ""), (2, 0)),
    ("a,b\nc,'d'\n", (",", '"', ""), (",", "'", "\\"), (1, 1)),
    (",\\,\n", (",", "", ""), (",", "", "\\"), (0, 1)),
    ('a,"b\nc,d"\n', (",", "", ""), (",", '"', ""), (0, 1)),
    ("a,b,'\n',c,d\n", (",", "", ""), (",", "'", ""), (0, 2)),
]


class TheOnly(unittest.TestCase):
    def test_all_that_fit_alike(self):
        for text, manners in SAME:
            for manner in oracle.MANNERS:
                with self.subTest(text=text, manner=manner):
                    self.assertIs(Only(manner).shows(text), manner in manners)

    def test_not_where_tables_are_unlike(self):
        for text, one, other, place in UNLIKE:
            for manner in oracle.MANNERS:
                with self.subTest(text=text, manner=manner):
                    self.assertIs(Only(manner).shows(text), False)

    def test_not_where_none_fits(self):
        for text in UNFIT:
            for manner in oracle.MANNERS:
                with self.subTest(text=text, manner=manner):
                    self.assertIs(Only(manner).shows(text), False)

    def test_what_is_no_manner(self):
        for manner in NO_MANNERS:
            for text in ("a,b\n", "bac\n", ",\n", "\n", ""):
                with self.subTest(text=text, manner=manner):
                    self.assertIs(Only(manner).shows(text), False)


class TheTwo(unittest.TestCase):
    def test_the_first_ones_and_others(self):
        for text, one, other, (row, cell) in UNLIKE:
            with self.subTest(text=text, one=one, other=other):
                self.assertIs(Both(one, other, row, cell).shows(text), True)
                self.assertIs(Both(other, one, row, cell).shows(text), True)

    def test_wrong_rows_and_cells(self):
        for text, one, other, (row, cell) in UNLIKE:
            for wrong in [(row + 1, cell), (row, cell + 1), (row - 1, cell), (row, cell - 1), (-1, -1),
                          (10 ** 30, cell), (row, -10 ** 30), (row - 10 ** 30, 10 ** 30), (cell + 1, row + 1)]:
                with self.subTest(text=text, one=one, other=other, wrong=wrong):
                    self.assertIs(Both(one, other, *wrong).shows(text), False)

    def test_only_the_first_place_counts(self):
        text = "'a','b'\n'c','d'\n"
        one, other = (",", "", ""), (",", "'", "")
        for row in range(3):
            for cell in range(3):
                self.assertIs(Both(one, other, row, cell).shows(text), (row, cell) == (0, 0))

    def test_two_with_the_same_table(self):
        for text, manners in SAME:
            for one in manners:
                for other in manners:
                    self.assertIs(Both(one, other, 0, 0).shows(text), False)

    def test_one_of_them_does_not_fit(self):
        text = "a,b;c\n"
        for wrong in [("|", "", ""), (":", '"', "\\"), *NO_MANNERS]:
            with self.subTest(wrong=wrong):
                self.assertIs(Both((",", "", ""), wrong, 0, 0).shows(text), False)
                self.assertIs(Both(wrong, (",", "", ""), 0, 0).shows(text), False)
                self.assertIs(Both(wrong, wrong, 0, 0).shows(text), False)

    def test_not_where_none_fits(self):
        for text in UNFIT:
            for one in oracle.MANNERS[::3]:
                for other in oracle.MANNERS[::5]:
                    self.assertIs(Both(one, other, 0, 0).shows(text), False)

    def test_true_and_false_are_no_numbers(self):
        one, other = (",", "", ""), (",", "'", "\\")
        self.assertIs(Both(one, other, 1, 1).shows("a,b\nc,'d'\n"), True)
        self.assertIs(Both(one, other, True, 1).shows("a,b\nc,'d'\n"), False)
        self.assertIs(Both(one, other, 1, True).shows("a,b\nc,'d'\n"), False)


class TheUnfit(unittest.TestCase):
    def test_none_fits(self):
        for text in UNFIT:
            with self.subTest(text=text):
                self.assertIs(Unfit().shows(text), True)

    def test_one_fits_at_least(self):
        for text in [case[0] for case in SAME + UNLIKE]:
            with self.subTest(text=text):
                self.assertIs(Unfit().shows(text), False)


class ShortTexts(unittest.TestCase):
    def test_all_short_texts(self):
        for text in oracle.texts(',;"\\\nn', 4):
            text += "\n"
            tables = oracle.tables(text)
            alike = all(one == other for one in tables.values() for other in tables.values())
            with self.subTest(text=text):
                self.assertIs(Unfit().shows(text), not tables)
                for manner in COMMAS + SEMICOLONS[:3]:
                    self.assertIs(Only(manner).shows(text), manner in tables and alike)

    def test_pairs_of_short_texts(self):
        for text in oracle.texts(',;"\\\n', 4):
            text += '"",\n'
            tables = oracle.tables(text)
            for one in tables:
                for other in tables:
                    place = oracle.parted(tables[one], tables[other])
                    with self.subTest(text=text, one=one, other=other):
                        self.assertIs(Both(one, other, *(place or (0, 0))).shows(text), place is not None)


class Parting(unittest.TestCase):
    def test_where_tables_part(self):
        for one, other, place in [
            ([], [], None),
            ([["a", "b"]], [["a", "b"]], None),
            ([["a", "b"]], [["a", "c"]], (0, 1)),
            ([["a", "b"]], [["a"]], (0, 1)),
            ([["a", "b"], ["c"]], [["a", "b"]], (1, 0)),
            ([["a"], ["", "c"]], [["a"], [""], ["d"]], (1, 1)),
            ([], [["", ""]], (0, 0)),
        ]:
            with self.subTest(one=one, other=other):
                self.assertEqual(unlike_at(one, other), place)
                self.assertEqual(unlike_at(other, one), place)


if __name__ == "__main__":
    unittest.main()
