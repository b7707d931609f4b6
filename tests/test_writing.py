import random
import unittest

from tablemanners.errors import Unread, Unwritable
from tablemanners.reading import read
from tablemanners.writing import turned, unwritable, written
from tests import oracle
from tests.oracle import BOTH, ESCAPING, KINDS, PLAIN, QUOTING
from tests.test_table_broken import BREAKS, READ

WRITTEN = [
    *[([], manner, "") for manner in oracle.MANNERS],
    *[([[""]], manner, "\n") for manner in oracle.MANNERS],
    *[([[""], [""]], manner, "\n\n") for manner in oracle.MANNERS],
    *[([["a", "b 1"], [""], ["", ""]], kind, "a,b 1\n\n,\n") for kind in KINDS],
    *[([["'a;b|c:"]], kind, "'a;b|c:\n") for kind in KINDS],
    ([['"a"', "\\n\\"]], PLAIN, '"a",\\n\\\n'),
    ([["a,b", "\\", "\n", "n", '"']], ESCAPING, 'a\\,b,\\\\,\\n,n,"\n'),
    ([["\\,\n\\n"]], ESCAPING, "\\\\\\,\\n\\\\n\n"),
    ([[",", '"', "\n", "\\", "'"]], QUOTING, '",","""","\n",\\,\'\n'),
    ([['a"b\\', "a\\b,"]], QUOTING, '"a""b\\","a\\b,"\n'),
    ([['""']], QUOTING, '""""""\n'),
    ([[",", '"', "\n", "\\", "'"]], BOTH, '",","\\"","\n",\\,\'\n'),
    ([['a"b\\', "a\\b,"]], BOTH, '"a\\"b\\\\","a\\\\b,"\n'),
    ([["\\\\", "\\\\\n"]], BOTH, '\\\\,"\\\\\\\\\n"\n'),
    ([["|'", '"|', ";"]], ("|", "'", "\\"), "'|\\''|'\"|'|;\n"),
    ([["a:b", "it's"]], (":", "'", ""), "'a:b':'it''s'\n"),
]


def tables(seed, many):
    """Tables of all sizes, full of signs that have to be looked after."""
    chance = random.Random(seed)
    for turn in range(many):
        rows = chance.randint(0, 12)
        signs = ",;|:\"'\\\n n" if turn % 2 else "ab \\,\""
        yield [["".join(chance.choices(signs, k=chance.randint(0, 8))) for cell in range(chance.randint(1, 6))]
               for row in range(rows)]


class Written(unittest.TestCase):
    def test_told_texts(self):
        for rows, manner, text in WRITTEN:
            with self.subTest(rows=rows, manner=manner):
                self.assertEqual(written(rows, manner), text)
                self.assertIs(type(written(rows, manner)), str)
                self.assertIsNone(unwritable(rows, manner))

    def test_as_short_as_a_cell_can_be_read(self):
        for manner in oracle.MANNERS:
            signs = sorted({sign for sign in (*manner, "\\", "\n", "n", "'") if sign})
            for cell, raws in oracle.shortest_cells(manner, signs, 5).items():
                with self.subTest(cell=cell, manner=manner):
                    self.assertEqual([f"{raw}\n" for raw in raws], [written([[cell]], manner)])

    def test_reads_back_the_same(self):
        for rows in tables(6, 60):
            for manner in oracle.MANNERS:
                if unwritable(rows, manner) is None:
                    with self.subTest(rows=rows, manner=manner):
                        text = written(rows, manner)
                        self.assertEqual(oracle.rows(text, manner), rows)
                        self.assertTrue(oracle.reads(text, manner))
                        if len(text) <= 200:
                            self.assertEqual(read(text, manner).rows, rows)

    def test_texts_of_the_largest_tables(self):
        full = [["\\" * 8] * 6] * 12
        self.assertEqual(written(full, ESCAPING), (",".join(["\\" * 16] * 6) + "\n") * 12)
        self.assertEqual(written([["a" * 8] * 6] * 12, PLAIN), (",".join(["a" * 8] * 6) + "\n") * 12)
        self.assertEqual(written([['"' * 8] * 6] * 12, QUOTING), (",".join(['"' * 18] * 6) + "\n") * 12)
        self.assertEqual(len(written([["\n" * 8] * 6] * 12, BOTH)), 12 * 6 * 11)

    def test_unwritable(self):
        for rows, manner in [([[","]], PLAIN), ([["\n"]], PLAIN), ([["a"], ["b", "c,"]], PLAIN),
                             ([["a\nb", "|"]], ("|", "", ""))]:
            with self.subTest(rows=rows, manner=manner):
                self.assertRaises(Unwritable, written, rows, manner)


class UnwritableCells(unittest.TestCase):
    def test_told_places(self):
        for rows, manner, place in [
            ([], PLAIN, None),
            ([["a", ";", '"', "\\", "'", "|:"]], PLAIN, None),
            ([[","]], PLAIN, (0, 0)),
            ([["\n"]], PLAIN, (0, 0)),
            ([["a", "b\n"], [","]], PLAIN, (0, 1)),
            ([["a"], ["b", "c", "d,e"], ["\n"]], PLAIN, (1, 2)),
            ([["a", "b\n", ","]], PLAIN, (0, 1)),
            ([["a", ",", "\n"]], PLAIN, (0, 1)),
            ([["a"]] * 11 + [["a"] * 5 + [",,,,,,,,"]], PLAIN, (11, 5)),
            ([[",", ":"]], (":", "", ""), (0, 1)),
            ([[",", ":"]], (";", "", ""), None),
        ]:
            with self.subTest(rows=rows, manner=manner):
                told = unwritable(rows, manner)
                self.assertEqual(told, place)
                if place is not None:
                    self.assertIs(type(told), tuple)
                    self.assertEqual([type(part) for part in told], [int, int])

    def test_just_where_written_is_refused(self):
        for rows in tables(7, 80):
            for manner in oracle.MANNERS:
                wrong = [(row, cell) for row, cells in enumerate(rows) for cell, text in enumerate(cells)
                         if not manner[1] and not manner[2] and (manner[0] in text or "\n" in text)]
                with self.subTest(rows=rows, manner=manner):
                    self.assertEqual(unwritable(rows, manner), wrong[0] if wrong else None)
                    if wrong:
                        self.assertRaises(Unwritable, written, rows, manner)


class Turned(unittest.TestCase):
    def test_told_texts(self):
        for text, manner, other, told in [
            ("", PLAIN, BOTH, ""),
            ("\n", PLAIN, BOTH, "\n"),
            ('"a",b\n', QUOTING, QUOTING, "a,b\n"),
            ("a,b\n", PLAIN, (";", "", ""), "a;b\n"),
            ("a;,b\n", PLAIN, (";", "'", ""), "'a;';b\n"),
            ('"a,b"\n', QUOTING, ESCAPING, "a\\,b\n"),
            ('"a\nb"\n', QUOTING, ESCAPING, "a\\nb\n"),
            ("a\\nb,\\\\\n", ESCAPING, BOTH, '"a\nb",\\\n'),
            ('"""a"\n', QUOTING, BOTH, '"\\"a"\n'),
            ('"\\"a"\n', BOTH, QUOTING, '"""a"\n'),
            ('"\\"a"\n', BOTH, PLAIN, '"a\n'),
        ]:
            with self.subTest(text=text, manner=manner, other=other):
                self.assertEqual(turned(text, manner, other), told)

    def test_tables_beyond_what_may_be_handed_in(self):
        self.assertEqual(turned("\n" * 200, PLAIN, BOTH), "\n" * 200)
        self.assertEqual(turned("," * 199 + "\n", PLAIN, ("|", "", "")), "|" * 199 + "\n")
        self.assertEqual(turned("\\" * 199 + "\n", PLAIN, ESCAPING), "\\" * 398 + "\n")
        self.assertEqual(turned('"' * 199 + "\n", PLAIN, QUOTING), '"' * 400 + "\n")

    def test_unread(self):
        for text, manner, place in BREAKS:
            for other in (PLAIN, BOTH, manner):
                with self.subTest(text=text, manner=manner, other=other):
                    self.assertRaises(Unread, turned, text, manner, other)

    def test_unread_comes_ahead_of_unwritable(self):
        self.assertRaises(Unread, turned, '"a,b"\n"', QUOTING, PLAIN)
        self.assertRaises(Unwritable, turned, '"a,b"\n', QUOTING, PLAIN)
        self.assertRaises(Unwritable, turned, '"a\nb"\n', QUOTING, (";", "", ""))
        self.assertRaises(Unwritable, turned, "a;b\n", PLAIN, (";", "", ""))
        self.assertRaises(Unwritable, turned, "a\\nb\n", ESCAPING, (":", "", ""))

    def test_all_texts_by_all_manners(self):
        for text, manner, rows in READ:
            for other in oracle.MANNERS:
                with self.subTest(text=text, manner=manner, other=other):
                    if not other[1] and not other[2] and any(
                            other[0] in cell or "\n" in cell for row in rows for cell in row):
                        self.assertRaises(Unwritable, turned, text, manner, other)
                    else:
                        self.assertEqual(oracle.rows(turned(text, manner, other), other), rows)

    def test_as_short_as_written(self):
        for rows in tables(8, 40):
            rows = rows[:3]
            for manner in oracle.MANNERS[::5] + KINDS:
                if unwritable(rows, manner) is None and len(text := written(rows, manner)) <= 200:
                    for other in oracle.MANNERS:
                        if unwritable(rows, other) is None:
                            self.assertEqual(turned(text, manner, other), written(rows, other))


if __name__ == "__main__":
    unittest.main()
