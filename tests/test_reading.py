import unittest

from tablemanners.answers import Broken, Table
from tablemanners.reading import read, survey
from tests import oracle
from tests.oracle import BOTH, ESCAPING, KINDS, PLAIN, QUOTING
from tests.test_table_broken import BREAKS, READ


def turned_over(text, manner):
    """The text of a comma and double quotes in the signs of another manner."""
    swaps = {",": manner[0], manner[0]: ","}
    if manner[1]:
        swaps |= {'"': manner[1], manner[1]: '"'}
    return "".join(swaps.get(sign, sign) for sign in text)


def same_kind(manner):
    """Whether a manner of the kinds has a quote and an escape just where this one has."""
    return [kind for kind in KINDS if (bool(kind[1]), kind[2]) == (bool(manner[1]), manner[2])][0]


class Read(unittest.TestCase):
    def check_table(self, text, manner, rows):
        told = read(text, manner)
        self.assertIs(type(told), Table)
        self.assertEqual(told.rows, rows)
        self.assertIs(type(told.rows), list)
        self.assertTrue(all(type(row) is list for row in told.rows))
        self.assertIs(told.shows(text, manner), True)

    def check_broken(self, text, manner, place):
        told = read(text, manner)
        self.assertIs(type(told), Broken)
        self.assertIs(type(told.place), int)
        self.assertEqual(told.place, place)
        self.assertIs(told.shows(text, manner), True)

    def test_tables(self):
        for text, manner, rows in READ:
            with self.subTest(text=text, manner=manner):
                self.check_table(text, manner, rows)

    def test_breaks(self):
        for text, manner, place in BREAKS:
            with self.subTest(text=text, manner=manner):
                self.check_broken(text, manner, place)

    def test_all_kinds_of_cells_by_all_manners(self):
        for manner in oracle.MANNERS:
            kind = same_kind(manner)
            for text, other, rows in READ:
                if other == kind:
                    with self.subTest(text=text, manner=manner):
                        told = [[turned_over(cell, manner) for cell in row] for row in rows]
                        self.check_table(turned_over(text, manner), manner, told)
            for text, other, place in BREAKS:
                if other == kind:
                    with self.subTest(text=text, manner=manner):
                        self.check_broken(turned_over(text, manner), manner, place)

    def test_the_text_of_no_sign_and_rows_of_one_cell_of_no_sign(self):
        for manner in oracle.MANNERS:
            self.check_table("", manner, [])
            self.check_table("\n", manner, [[""]])
            self.check_table("\n\n", manner, [[""], [""]])
            self.check_table(manner[0] + "\n\n", manner, [["", ""], [""]])

    def test_short_texts_by_all_manners(self):
        for manner in oracle.MANNERS:
            for text in oracle.texts(',;"\'\\\nn', 4):
                with self.subTest(text=text, manner=manner):
                    if oracle.reads(text, manner):
                        self.check_table(text, manner, oracle.rows(text, manner))
                    else:
                        self.assertIs(type(read(text, manner)), Broken)

    def test_where_short_texts_break(self):
        for manner in KINDS + [(";", "'", "\\")]:
            for text in oracle.texts([manner[0], manner[1] or '"', "\\", "\n", "n"], 4):
                if not oracle.reads(text, manner):
                    with self.subTest(text=text, manner=manner):
                        self.check_broken(text, manner, oracle.broken(text, manner))

    def test_every_sign_stands_for_itself(self):
        for manner in oracle.MANNERS:
            for sign in "abcdefghijklmnopqrstuvwxyz0123456789 ,;|:\"'\\":
                if sign not in manner or (sign == "\\" and manner[1]):
                    self.check_table(f"{sign}\n", manner, [[sign]])
                    self.check_table(f"a{sign}b\n", manner, [[f"a{sign}b"]])

    def test_long_texts(self):
        self.check_table("," * 199 + "\n", PLAIN, [[""] * 200])
        self.check_table("\n" * 200, BOTH, [[""]] * 200)
        self.check_table('"' + "\n" * 197 + '"\n', QUOTING, [["\n" * 197]])
        self.check_table("\\n" * 99 + "a\n", ESCAPING, [["\n" * 99 + "a"]])
        self.check_broken("a" * 200, PLAIN, 200)
        self.check_broken('"' * 200, QUOTING, 200)
        self.check_broken('"' * 200, BOTH, 2)
        self.check_broken("a" * 199 + '"', BOTH, 199)


class Survey(unittest.TestCase):
    def check(self, text, manner, wide, rows):
        told = survey(text, manner, wide)
        self.assertEqual(told, rows)
        self.assertIs(type(told), list)
        for triple in told:
            self.assertIs(type(triple), tuple)
            self.assertEqual([type(part) for part in triple], [str, int, int])

    def test_told_rows(self):
        for text, manner, wide, rows in [
            *[("", manner, wide, []) for manner in oracle.MANNERS for wide in range(1, 7)],
            *[("\n", manner, 1, [("good", 0, 0)]) for manner in oracle.MANNERS],
            *[("\n", manner, 2, [("uneven", 0, 1)]) for manner in oracle.MANNERS],
            *[("a,b\nc,d\n", kind, 2, [("good", 0, 3), ("good", 4, 7)]) for kind in KINDS],
            *[("a,b\nc\nd,e\n", kind, 2, [("good", 0, 3), ("uneven", 4, 1), ("good", 6, 9)]) for kind in KINDS],
            *[("a,b\nc", kind, 2, [("good", 0, 3), ("broken", 4, 5)]) for kind in KINDS],
            *[("a\n,,,,,,,,\n", kind, 6, [("uneven", 0, 1), ("uneven", 2, 9)]) for kind in KINDS],
            # Rows with a row's end within.
            ('"a\nb",c\nd\n', QUOTING, 2, [("good", 0, 7), ("uneven", 8, 1)]),
            ('"\n\n"\n\n', BOTH, 1, [("good", 0, 4), ("good", 5, 5)]),
            # A row that breaks, with and without a row's end sign behind it.
            ('a"b,c\nd,e\n', QUOTING, 2, [("broken", 0, 1), ("good", 6, 9)]),
            ('a"b,c\n', QUOTING, 2, [("broken", 0, 1)]),
            ('a"b,c', QUOTING, 2, [("broken", 0, 1)]),
            ('d\na"', QUOTING, 1, [("good", 0, 1), ("broken", 2, 3)]),
            ('"a\nb"c\nd\n', QUOTING, 1, [("broken", 0, 5), ("good", 7, 8)]),
            ('"a\nb\n', QUOTING, 1, [("broken", 0, 5)]),
            ('b\n"a\nb\n', BOTH, 1, [("good", 0, 1), ("broken", 2, 7)]),
            # A row's end sign at the broken place itself.
            ("a\\\nb\n", ESCAPING, 1, [("broken", 0, 2), ("good", 3, 4)]),
            ("\\\n", ESCAPING, 1, [("broken", 0, 1)]),
            ("\\\n\\\n\n", ESCAPING, 1, [("broken", 0, 1), ("broken", 2, 3), ("good", 4, 4)]),
            ('"\\\n"\n', BOTH, 1, [("broken", 0, 2), ("broken", 3, 5)]),
            # Several of each.
            ('a"\nb\n"c"d\n,\n""""\n\'\n"', QUOTING, 1,
             [("broken", 0, 1), ("good", 3, 4), ("broken", 5, 8), ("uneven", 10, 2), ("good", 12, 16),
              ("good", 17, 18), ("broken", 19, 20)]),
        ]:
            with self.subTest(text=text, manner=manner, wide=wide):
                self.check(text, manner, wide, rows)

    def test_all_counts_of_cells(self):
        text = "".join("," * many + "\n" for many in range(8))
        for manner in oracle.MANNERS:
            for wide in range(1, 7):
                rows = []
                begin = 0
                for cells in range(1, 9):
                    end = begin + cells - 1
                    rows.append(("good", begin, end) if cells == wide else ("uneven", begin, cells))
                    begin = end + 1
                self.check(text.replace(",", manner[0]), manner, wide, rows)

    def test_short_texts(self):
        for manner in KINDS + [("|", "'", "\\")]:
            for text in oracle.texts([manner[0], manner[1] or '"', "\\", "\n"], 5):
                for wide in (1, 2):
                    with self.subTest(text=text, manner=manner, wide=wide):
                        self.check(text, manner, wide, oracle.survey(text, manner, wide))

    def test_a_text_that_reads_has_no_broken_row(self):
        for text, manner, rows in READ:
            for wide in range(1, 7):
                told = survey(text, manner, wide)
                kinds = ["good" if len(row) == wide else "uneven" for row in rows]
                self.assertEqual([kind for kind, begin, more in told], kinds)

    def test_a_text_that_breaks_tells_the_same_place(self):
        for text, manner, place in BREAKS:
            first = [triple for triple in survey(text, manner, 1) if triple[0] == "broken"][0]
            self.assertEqual(first[2], place)

    def test_long_texts(self):
        self.check("\n" * 200, PLAIN, 1, [("good", place, place) for place in range(200)])
        self.check("," * 200, PLAIN, 6, [("broken", 0, 200)])
        self.check("\\\n" * 100, ESCAPING, 3, [("broken", place, place + 1) for place in range(0, 200, 2)])


if __name__ == "__main__":
    unittest.main()
