import unittest

from tablemanners.answers import Answer, Both, Broken, Mended, Only, Table, Unfit
from tests.oracle import PLAIN, QUOTING

CLASSES = (Table, Broken, Only, Both, Unfit, Mended)


class Classes(unittest.TestCase):
    def test_each_stands_straight_under_answer(self):
        for each in CLASSES:
            self.assertEqual(each.__bases__, (Answer,))

    def test_each_has_a_shows_of_its_own(self):
        for each in CLASSES:
            self.assertIn("shows", vars(each))


class Fields(unittest.TestCase):
    def test_what_is_handed_in_is_there(self):
        self.assertEqual(Table([["a", "b"], ["c"]]).rows, [["a", "b"], ["c"]])
        self.assertEqual(Table([]).rows, [])
        self.assertEqual(Broken(-3).place, -3)
        self.assertEqual(Only(PLAIN).manner, PLAIN)
        self.assertEqual(Mended("a\n").text, "a\n")
        both = Both(PLAIN, QUOTING, 2, 5)
        self.assertEqual((both.one, both.other, both.row, both.cell), (PLAIN, QUOTING, 2, 5))

    def test_lists_are_copied(self):
        rows = [["a", "b"], ["c"]]
        table = Table(rows)
        self.assertIsNot(table.rows, rows)
        self.assertIsNot(table.rows[0], rows[0])
        rows[0].append("z")
        rows.append(["y"])
        self.assertEqual(table.rows, [["a", "b"], ["c"]])
        self.assertIs(table.shows("a,b\nc\n", PLAIN), True)

    def test_a_list_handed_in_twice_is_two_lists(self):
        row = ["a"]
        table = Table([row, row])
        table.rows[0].append("b")
        self.assertEqual(table.rows, [["a", "b"], ["a"]])
        self.assertEqual(row, ["a"])

    def test_asking_changes_nothing(self):
        table = Table([["a", "b"]])
        held = table.rows
        table.shows("a,b\n", PLAIN)
        self.assertIs(table.rows, held)
        self.assertEqual(held, [["a", "b"]])


class ChangedFields(unittest.TestCase):
    def test_table(self):
        table = Table([["a"]])
        self.assertIs(table.shows("a,b\n", PLAIN), False)
        table.rows[0].append("b")
        self.assertIs(table.shows("a,b\n", PLAIN), True)
        table.rows = [["c"]]
        self.assertIs(table.shows("a,b\n", PLAIN), False)
        self.assertIs(table.shows("c\n", PLAIN), True)

    def test_broken(self):
        broken = Broken(0)
        self.assertIs(broken.shows("a", PLAIN), False)
        broken.place = 1
        self.assertIs(broken.shows("a", PLAIN), True)

    def test_only(self):
        only = Only(PLAIN)
        self.assertIs(only.shows("a,b\n"), True)
        only.manner = (";", "", "")
        self.assertIs(only.shows("a,b\n"), False)
        self.assertIs(only.shows("a;b\n"), True)

    def test_both(self):
        text = 'a,""\n'
        both = Both(PLAIN, QUOTING, 0, 1)
        self.assertIs(both.shows(text), True)
        for name, worth in (("one", QUOTING), ("other", PLAIN), ("row", 1), ("cell", 0)):
            changed = Both(PLAIN, QUOTING, 0, 1)
            setattr(changed, name, worth)
            self.assertIs(changed.shows(text), False)

    def test_mended(self):
        mended = Mended("a")
        self.assertIs(mended.shows("a", PLAIN, 1), False)
        mended.text = "a\n"
        self.assertIs(mended.shows("a", PLAIN, 1), True)

    def test_the_same_answer_asked_about_others(self):
        table = Table([["a,b"]])
        self.assertIs(table.shows('"a,b"\n', QUOTING), True)
        self.assertIs(table.shows('"a,b"\n', PLAIN), False)
        self.assertIs(table.shows("a,b\n", (";", "", "")), True)


if __name__ == "__main__":
    unittest.main()
