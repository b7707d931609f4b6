import unittest

from tablemanners.answers import Broken, Table
from tests import oracle
from tests.oracle import BOTH, ESCAPING, KINDS, PLAIN, QUOTING

READ = [
    # Every manner.
    *[("", manner, []) for manner in KINDS],
    *[("\n", manner, [[""]]) for manner in KINDS],
    *[("\n\n\n", manner, [[""], [""], [""]]) for manner in KINDS],
    *[("a\n", manner, [["a"]]) for manner in KINDS],
    *[("a,b\n", manner, [["a", "b"]]) for manner in KINDS],
    *[(",\n", manner, [["", ""]]) for manner in KINDS],
    *[(",,a\n", manner, [["", "", "a"]]) for manner in KINDS],
    *[("a,,\n\nb 1;|:\n", manner, [["a", "", ""], [""], ["b 1;|:"]]) for manner in KINDS],
    *[("a,b,c,d,e,f,g,h\n", manner, [list("abcdefgh")]) for manner in KINDS],
    *[("1\n" * 20, manner, [["1"]] * 20) for manner in KINDS],
    *[("'a'b,''\n", manner, [["'a'b", "''"]]) for manner in KINDS],
    # No quote and no escape.
    ('"a,b"\n', PLAIN, [['"a', 'b"']]),
    ("\\,\\n\\\\\n", PLAIN, [["\\", "\\n\\\\"]]),
    # The escape alone.
    ("a\\,b\n", ESCAPING, [["a,b"]]),
    ("\\\\\n", ESCAPING, [["\\"]]),
    ("\\\\,\\\\\\,\n", ESCAPING, [["\\", "\\,"]]),
    ("a\\nb,n\n", ESCAPING, [["a\nb", "n"]]),
    ("\\\\n\n", ESCAPING, [["\\n"]]),
    ('"a,b"\n', ESCAPING, [['"a', 'b"']]),
    ("\\;\n", (";", "", "\\"), [[";"]]),
    # The quote alone.
    ('"a,b"\n', QUOTING, [["a,b"]]),
    ('"a\nb",c\n', QUOTING, [["a\nb", "c"]]),
    ('""\n', QUOTING, [[""]]),
    ('"",""\n', QUOTING, [["", ""]]),
    ('""""\n', QUOTING, [['"']]),
    ('"a""b"\n', QUOTING, [['a"b']]),
    ('"a"",""b"\n', QUOTING, [['a","b']]),
    ('"a"\n', QUOTING, [["a"]]),
    ("a\\b,\\\n", QUOTING, [["a\\b", "\\"]]),
    ('"\\"\n', QUOTING, [["\\"]]),
    ('"\\n\'"\n', QUOTING, [["\\n'"]]),
    ("'a|b'|'''\"'\n", ("|", "'", ""), [["a|b", "'\""]]),
    # The quote and the escape.
    ('"a,b"\n', BOTH, [["a,b"]]),
    ('"a\nb",c\n', BOTH, [["a\nb", "c"]]),
    ('""\n', BOTH, [[""]]),
    ('"a\\"b"\n', BOTH, [['a"b']]),
    ('"\\\\"\n', BOTH, [["\\"]]),
    ('"\\\\\\""\n', BOTH, [['\\"']]),
    ("a\\b,\\\n", BOTH, [["a\\b", "\\"]]),
    ("\\n\\\\\n", BOTH, [["\\n\\\\"]]),
    ("'\\''\n", (":", "'", "\\"), [["'"]]),
]

BREAKS = [
    # Only some signs are missing behind.
    *[("a", manner, 1) for manner in KINDS],
    *[("a,", manner, 2) for manner in KINDS],
    *[("a\nb", manner, 3) for manner in KINDS],
    ('"a,b', PLAIN, 4),
    ("a\\", ESCAPING, 2),
    ("a\\,", ESCAPING, 3),
    ("a\\n", ESCAPING, 3),
    ('"', QUOTING, 1),
    ('"a\n', QUOTING, 3),
    ('"a"', QUOTING, 3),
    ('"a""\n', QUOTING, 5),
    ('"a\\', BOTH, 3),
    ('"a\\"\n', BOTH, 5),
    ('"a"', BOTH, 3),
    # An escape with nothing allowed behind it.
    ("a\\a\n", ESCAPING, 2),
    ("\\\n", ESCAPING, 1),
    ("\\;\n", ESCAPING, 1),
    ('\\"\n', ESCAPING, 1),
    ("b\n\\\\\\1\n", ESCAPING, 5),
    ('"\\n"\n', BOTH, 2),
    ('"\\,"\n', BOTH, 2),
    ('"a\\\n"\n', BOTH, 3),
    ("'\\\"'\n", (",", "'", "\\"), 2),
    # A quote within a bare cell.
    ('a"b\n', QUOTING, 1),
    ('a,b""\n', QUOTING, 3),
    (' "a"\n', BOTH, 1),
    ('\\"\n', BOTH, 1),
    ('\\"\n', QUOTING, 1),
    # A sign behind a quote that ends a cell.
    ('"a"b\n', QUOTING, 3),
    ('"a" ,b\n', QUOTING, 3),
    ('"a"\\\n', QUOTING, 3),
    ('"a"b\n', BOTH, 3),
    ('"a""\n', BOTH, 3),
    ('""""\n', BOTH, 2),
    ('a\n"b"c,d\n', BOTH, 5),
    ("'a';\n", (",", "'", ""), 3),
]


def changed_rows(rows):
    """Rows that are not these."""
    yield rows + [[""]]
    yield [["a"]] + rows
    yield rows + [[]]
    for at, row in enumerate(rows):
        yield rows[:at] + rows[at + 1:]
        yield rows[:at] + [row + [""]] + rows[at + 1:]
        yield rows[:at] + [row[:-1]] + rows[at + 1:]
        for cell, text in enumerate(row):
            for other in (text + "a", text + " ", text + "\n", "z" + text, text[1:] if text else "b"):
                yield rows[:at] + [row[:cell] + [other] + row[cell + 1:]] + rows[at + 1:]
        if row != row[::-1]:
            yield rows[:at] + [row[::-1]] + rows[at + 1:]
    if rows != rows[::-1]:
        yield rows[::-1]


class Tables(unittest.TestCase):
    def test_the_told_rows(self):
        for text, manner, rows in READ:
            with self.subTest(text=text, manner=manner):
                self.assertIs(Table(rows).shows(text, manner), True)

    def test_other_rows(self):
        for text, manner, rows in READ:
            for other in changed_rows(rows):
                with self.subTest(text=text, manner=manner, other=other):
                    self.assertIs(Table(other).shows(text, manner), False)

    def test_a_text_that_reads_is_not_broken(self):
        for text, manner, rows in READ:
            for place in range(-2, len(text) + 3):
                with self.subTest(text=text, manner=manner, place=place):
                    self.assertIs(Broken(place).shows(text, manner), False)

    def test_a_text_that_breaks_has_no_table(self):
        for text, manner, place in BREAKS:
            for rows in ([], [[""]], [["a"]], [["a", "b"]], [[text]], [[text.rstrip("\n")]]):
                with self.subTest(text=text, manner=manner, rows=rows):
                    self.assertIs(Table(rows).shows(text, manner), False)

    def test_all_short_texts(self):
        for manner in KINDS + [("|", "'", "\\")]:
            for text in oracle.texts([manner[0], manner[1] or '"', "\\", "\n", "n"], 5):
                with self.subTest(text=text, manner=manner):
                    if oracle.reads(text, manner):
                        self.assertIs(Table(oracle.rows(text, manner)).shows(text, manner), True)
                    else:
                        self.assertIs(Table([]).shows(text, manner), False)

    def test_every_manner(self):
        for manner in oracle.MANNERS:
            for text in oracle.texts(',;|:"\'\\\na', 3):
                text += "\n"
                with self.subTest(text=text, manner=manner):
                    told = oracle.reads(text, manner)
                    rows = oracle.rows(text, manner) if told else []
                    self.assertIs(Table(rows).shows(text, manner), told)

    def test_a_long_text(self):
        text = "ab,c\n" * 40
        for manner in KINDS:
            self.assertIs(Table([["ab", "c"]] * 40).shows(text, manner), True)
            self.assertIs(Table([["ab", "c"]] * 39).shows(text, manner), False)
            self.assertIs(Table([["ab", "c"]] * 39 + [["ab", "d"]]).shows(text, manner), False)


class Breaks(unittest.TestCase):
    def test_the_told_place(self):
        for text, manner, place in BREAKS:
            with self.subTest(text=text, manner=manner):
                self.assertIs(Broken(place).shows(text, manner), True)

    def test_other_places(self):
        for text, manner, place in BREAKS:
            others = [*range(-len(text) - 3, len(text) + 3), 10 ** 30, -10 ** 30]
            for other in others:
                if other != place:
                    with self.subTest(text=text, manner=manner, other=other):
                        self.assertIs(Broken(other).shows(text, manner), False)

    def test_all_short_texts(self):
        for manner in KINDS + [(":", "'", "")]:
            for text in oracle.texts([manner[0], manner[1] or '"', "\\", "\n", "n"], 4):
                told = None if oracle.reads(text, manner) else oracle.broken(text, manner)
                for place in range(-1, len(text) + 2):
                    with self.subTest(text=text, manner=manner, place=place):
                        self.assertIs(Broken(place).shows(text, manner), place == told)

    def test_true_and_false_are_no_places(self):
        self.assertIs(Broken(1).shows("a", PLAIN), True)
        self.assertIs(Broken(True).shows("a", PLAIN), False)


if __name__ == "__main__":
    unittest.main()
