import unittest

from tablemanners.answers import Mended
from tests import oracle
from tests.oracle import BOTH, ESCAPING, KINDS, PLAIN, QUOTING

# A text, a manner and a count of cells; texts that mend it; texts that do not.
CASES = [
    # The text itself.
    *[("", manner, 3, [""], ["\n", ",,\n", ","]) for manner in KINDS],
    *[("\n", manner, 1, ["\n"], ["", "\n\n", "a\n"]) for manner in KINDS],
    *[("a,b\n", manner, 2, ["a,b\n"], ["", "a,b", "ab\n", "a,b\na,b\n", "a,b,\n", "a,c\n"]) for manner in KINDS],
    ('"a""b"\n', QUOTING, 1, ['"a""b"\n'], ['"a"\n', "ab\n"]),
    ('"a\\"b"\n', BOTH, 1, ['"a\\"b"\n'], ['"a"\n', "ab\n"]),
    # Another count of cells.
    *[("a,b\n", manner, 1, ["ab\n"], ["a,b\n", "a\n", "b\n", "", "ba\n"]) for manner in (PLAIN, QUOTING, BOTH)],
    ("a,b\n", ESCAPING, 1, ["ab\n", "a\\,b\n"], ["a,b\n", "a\n"]),
    ("a,b\n", PLAIN, 3, ["a,b,\n", ",a,b\n", "a,,b\n"], ["a,b\n", "a,b,,\n", "a,b,c\n", ""]),
    ("a\n", PLAIN, 2, [",a\n", "a,\n"], ["", "a\n", ",\n"]),
    ("\n", PLAIN, 6, [""], [",,,,,\n", "\n"]),
    ("a,b\nc\n", PLAIN, 2, ["a,b\n,c\n", "a,b\nc,\n", "a,bc\n"], ["a,b\nc\n", "a,b\n", "a,b\nc,c\n"]),
    ("a\nb\n", PLAIN, 2, ["a,\nb,\n", "a,b\n", "ab,\n"], ["ab\n", "a,\n", "a\nb\n"]),
    # Signs that are missing behind.
    ("a", PLAIN, 1, ["", "a\n"], ["a", "b\n", "a\n\n"]),
    ('"a', QUOTING, 1, ["a\n", "", '"a"\n'], ['"a', "aa\n"]),
    ("a\\\n", ESCAPING, 1, ["a\n", "a\\\\\n", "a\\n\n"], ["a\\\n", "\n", "", "an\n"]),
    # Broken ones.
    ('a"b\n', QUOTING, 1, ["ab\n"], ['a"b\n', '"ab"\n', "a\n", '"a""b"\n']),
    ('"a"b\n', QUOTING, 1, ['"a"\n', '"a"\nb\n'], ['"a"b\n', "ab\n", '"ab"\n', '"a""b"\n']),
    ('"a""\n', QUOTING, 1, ['"a"\n', '"a"""\n'], ['"a""\n', "a\n"]),
    ('"a""\n', BOTH, 1, ['"a\\""\n', '"a"\n'], ['"a""\n', '"a"""\n', "a\n"]),
    ('"\\a"\n', BOTH, 1, ['"a"\n', '"\\\\a"\n', '"\\"a"\n'], ['"\\a"\n', "a\n", "\\a\n"]),
    ("\\a\n", ESCAPING, 1, ["a\n", "\\\\a\n", "\\,a\n", "\\na\n"], ["\\a\n", "\n", "\\n\n"]),
    # As many signs as may be asked about.
    ("a" * 16, PLAIN, 1, ["a" * 16 + "\n"], ["a" * 15 + "\n", "a" * 16, ""]),
    ("a" * 16, PLAIN, 6, ["a" * 16 + ",,,,,\n", ",,a,," + "a" * 15 + ",\n"], ["", "a" * 16 + "\n", "a" * 60]),
    ("\n" * 16, PLAIN, 6, [""], ["\n", ",,,,,\n", ",,,,,\n" * 16]),
    ("\n" * 16, BOTH, 2, ['"' + "\n" * 15 + '",\n', ',"' + "\n" * 15 + '"\n'],
     ["", '"' + "\n" * 14 + '",\n', '"' + "\n" * 16 + '",\n', ",\n" * 16]),
]


def spread(case):
    text, manner, wide, good, bad = case
    return [(text, manner, wide, each, True) for each in good] + [(text, manner, wide, each, False) for each in bad]


class Mending(unittest.TestCase):
    def test_told_texts(self):
        for case in CASES:
            for text, manner, wide, each, told in spread(case):
                with self.subTest(text=text, manner=manner, wide=wide, each=each):
                    self.assertIs(Mended(each).shows(text, manner, wide), told)

    def test_short_texts_against_trying_out(self):
        for manner in KINDS + [(";", "'", "\\")]:
            signs = [sign for sign in (*manner, "\n", "n") if sign]
            for text in oracle.texts(sorted({*signs, '"'}), 3):
                for wide in (1, 2, 3):
                    many, good = oracle.nearest(text, manner, wide, signs)
                    with self.subTest(text=text, manner=manner, wide=wide):
                        for each in good[:3] + good[-2:]:
                            self.assertIs(Mended(each).shows(text, manner, wide), True)
                        for each in good[:2]:
                            for other in oracle.neighbours(each, ["a", "\n"]):
                                self.assertIs(Mended(other).shows(text, manner, wide), other in good)

    def test_signs_that_stand_for_themselves_are_not_worth_putting_in(self):
        for manner in KINDS:
            signs = [sign for sign in (*manner, "\n", "n") if sign]
            for text in oracle.texts(signs, 2):
                many, good = oracle.nearest(text, manner, 2, signs)
                more, better = oracle.nearest(text, manner, 2, signs + ["a", ";"])
                self.assertEqual(many, more)

    def test_a_text_that_is_far_longer(self):
        self.assertIs(Mended("a" * 59 + "\n").shows("a\n", PLAIN, 1), False)
        self.assertIs(Mended("a" * 60).shows("a\n", PLAIN, 1), False)


if __name__ == "__main__":
    unittest.main()
