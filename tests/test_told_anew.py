"""Nothing handed in is changed or kept, and what is told is new each time."""

import copy
import unittest

from tablemanners.errors import Unwritable
from tablemanners.finding import fitting, manner_of, parted
from tablemanners.mending import far, mended
from tablemanners.reading import read, survey
from tablemanners.writing import turned, unwritable, written
from tests import oracle
from tests.oracle import BOTH, PLAIN, QUOTING


class HandedIn(unittest.TestCase):
    def test_tables_stay_as_they_were(self):
        for rows in ([], [[""]], [["a,b", '"'], ["\n"]], [["a"] * 6] * 12):
            kept = copy.deepcopy(rows)
            lists = [id(row) for row in rows]
            for manner in oracle.MANNERS:
                unwritable(rows, manner)
                try:
                    written(rows, manner)
                except Unwritable:
                    pass
            parted(rows, [["z"]])
            parted([["z"]], rows)
            parted(rows, rows)
            self.assertEqual(rows, kept)
            self.assertEqual([id(row) for row in rows], lists)

    def test_lists_changed_in_place_are_told_anew(self):
        rows = [["a", "b"]]
        other = [["a", "b"]]
        self.assertEqual(written(rows, PLAIN), "a,b\n")
        self.assertIsNone(unwritable(rows, PLAIN))
        self.assertIsNone(parted(rows, other))
        rows[0][1] = "c,"
        self.assertEqual(unwritable(rows, PLAIN), (0, 1))
        self.assertEqual(parted(rows, other), (0, 1))
        self.assertEqual(written(rows, QUOTING), 'a,"c,"\n')
        rows.append(["d"])
        other[0][1] = "c,"
        self.assertEqual(parted(rows, other), (1, 0))
        self.assertEqual(written(rows, QUOTING), 'a,"c,"\nd\n')
        rows[0].pop()
        self.assertEqual(written(rows, PLAIN), "a\nd\n")
        self.assertIsNone(unwritable(rows, PLAIN))
        self.assertEqual(parted(rows, other), (0, 1))
        rows.clear()
        self.assertEqual(written(rows, PLAIN), "")


class Told(unittest.TestCase):
    def test_tables(self):
        text = 'a,"b"\nc\n\n\n'
        told = read(text, QUOTING)
        again = read(text, QUOTING)
        self.assertIsNot(told, again)
        lists = [told.rows, *told.rows, again.rows, *again.rows]
        self.assertEqual(len({id(each) for each in lists}), len(lists))
        told.rows[0].append("z")
        told.rows.clear()
        self.assertEqual(again.rows, [["a", "b"], ["c"], [""], [""]])
        self.assertEqual(read(text, QUOTING).rows, again.rows)
        self.assertIs(told.shows(text, QUOTING), False)
        self.assertIs(again.shows(text, QUOTING), True)

    def test_the_rows_of_a_survey(self):
        told = survey("a\nb,\n", PLAIN, 1)
        told.clear()
        self.assertEqual(survey("a\nb,\n", PLAIN, 1), [("good", 0, 1), ("uneven", 2, 2)])
        self.assertIsNot(survey("", PLAIN, 1), survey("", PLAIN, 1))

    def test_the_manners_that_fit(self):
        told = fitting("a,b\n")
        told.reverse()
        self.assertEqual(fitting("a,b\n"), oracle.MANNERS[:6])
        fitting("a\n").append("z")
        self.assertEqual(fitting("a\n"), [])

    def test_answers(self):
        only = manner_of("a,b\n")
        only.manner = None
        self.assertEqual(manner_of("a,b\n").manner, PLAIN)
        both = manner_of("a,b;c\n")
        both.one = both.other = None
        self.assertEqual(manner_of("a,b;c\n").one, PLAIN)
        self.assertIsNot(manner_of("a\n"), manner_of("a\n"))
        nearest = mended("a\n", PLAIN, 1)
        nearest.text = "b"
        self.assertEqual(mended("a\n", PLAIN, 1).text, "a\n")
        broken = read("a", BOTH)
        broken.place = 7
        self.assertEqual(read("a", BOTH).place, 1)

    def test_the_same_is_told_each_time(self):
        for turn in range(3):
            self.assertEqual(far('"a,', BOTH, 2), 2)
            self.assertEqual(turned('"a,"\n', BOTH, QUOTING), '"a,"\n')
            self.assertEqual(mended('"a,', BOTH, 2).text, mended('"a,', BOTH, 2).text)


if __name__ == "__main__":
    unittest.main()
