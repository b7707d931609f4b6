import random
import unittest

from tablemanners.answers import Mended
from tablemanners.mending import far, mended
from tests import oracle
from tests.oracle import BOTH, ESCAPING, KINDS, PLAIN, QUOTING
from tests.test_mended import CASES

SIGNS = set("abcdefghijklmnopqrstuvwxyz0123456789 ,;|:\"'\\\n")


class Mending(unittest.TestCase):
    def check(self, text, manner, wide, many):
        """That so many signs are told, and a text that is as near."""
        told = far(text, manner, wide)
        self.assertIs(type(told), int)
        self.assertEqual(told, many)
        self.check_mended(text, manner, wide, many)

    def check_mended(self, text, manner, wide, many):
        answer = mended(text, manner, wide)
        self.assertIs(type(answer), Mended)
        self.assertIs(type(answer.text), str)
        self.assertTrue(oracle.has_width(answer.text, manner, wide))
        self.assertEqual(oracle.apart(text, answer.text), many)
        self.assertLessEqual(set(answer.text), SIGNS)
        self.assertIs(answer.shows(text, manner, wide), True)

    def test_told_counts(self):
        for text, manner, wide, many in [
            *[("", manner, wide, 0) for manner in oracle.MANNERS for wide in range(1, 7)],
            *[("\n", manner, 1, 0) for manner in oracle.MANNERS],
            *[("\n", manner, wide, 1) for manner in oracle.MANNERS for wide in range(2, 7)],
            *[("ab", manner, wide, min(2, wide)) for manner in oracle.MANNERS for wide in range(1, 7)],
            *[("a" * 16, manner, wide, wide) for manner in oracle.MANNERS for wide in range(1, 7)],
            *[("a,b\n", kind, wide, abs(wide - 2)) for kind in KINDS for wide in range(1, 6)],
            *[("a,b\n", kind, 6, 4) for kind in KINDS],
            *[(",,,,,,\n", kind, 6, 1) for kind in KINDS],
            ("\n" * 16, PLAIN, 6, 16),
            ("\n" * 16, PLAIN, 2, 16),
            ("\n" * 16, QUOTING, 1, 0),
            ("\n" * 16, QUOTING, 2, 3),
            ("\n" * 16, QUOTING, 6, 7),
            ('"' * 16, QUOTING, 1, 1),
            ('"' * 15, QUOTING, 1, 2),
            ('a"b\n', QUOTING, 1, 1),
            ('"a', QUOTING, 1, 2),
            ('"a""\n', BOTH, 1, 1),
            ('"\\a"\n', BOTH, 1, 1),
            ("\\" * 15 + "\n", ESCAPING, 1, 1),
            ("\\" * 14 + "\n", ESCAPING, 1, 0),
            ("a,b,c,d\n" * 2, ESCAPING, 3, 2),
        ]:
            with self.subTest(text=text, manner=manner, wide=wide):
                self.check(text, manner, wide, many)

    def test_cases_of_the_answer(self):
        for text, manner, wide, good, bad in CASES:
            with self.subTest(text=text, manner=manner, wide=wide):
                self.check(text, manner, wide, oracle.apart(text, good[0]))

    def test_short_texts_against_trying_out(self):
        for manner in KINDS + [("|", "'", ""), (";", "'", "\\")]:
            signs = [sign for sign in (*manner, "\n", "n") if sign]
            for text in oracle.texts(sorted({*signs, '"'}), 3):
                for wide, many in oracle.distances(text, manner, signs).items():
                    with self.subTest(text=text, manner=manner, wide=wide):
                        self.check(text, manner, wide, many)

    def test_texts_that_stand_already(self):
        for manner in KINDS:
            for text in oracle.texts([manner[0], manner[1] or "'", "\\", "\n", "a"], 4):
                for wide in (1, 2, 3):
                    self.assertEqual(far(text, manner, wide) == 0, oracle.has_width(text, manner, wide))

    def test_never_farther_than_the_signs_that_were_put_in_or_taken_out(self):
        chance = random.Random(16)
        for turn in range(400):
            manner = chance.choice(oracle.MANNERS)
            wide = chance.randint(1, 6)
            text = self.good_text(chance, manner, wide)
            many = 0
            while len(text) > 16 or many < chance.randint(1, 4):
                near = [each for each in oracle.neighbours(text, [*manner, "\n", "a"])
                        if len(each) < len(text) or len(text) < 16]
                text = chance.choice(near)
                many += 1
            with self.subTest(text=text, manner=manner, wide=wide):
                told = far(text, manner, wide)
                self.assertLessEqual(told, many)
                self.check_mended(text, manner, wide, told)

    def good_text(self, chance, manner, wide):
        """A text of about 16 signs that reads with so many cells in each row."""
        signs = [sign for sign in (*manner, "\n", "n", "a", "'") if sign]
        text = ""
        while len(text) < 12:
            cells = ["".join(chance.choices(signs, k=chance.randint(0, 5))) for cell in range(wide)]
            row = manner[0].join(cells) + "\n"
            if oracle.has_width(row, manner, wide):
                text += row
        return text

    def test_one_sign_more_or_less_is_at_most_one_farther(self):
        chance = random.Random(8)
        for turn in range(60):
            manner = chance.choice(oracle.MANNERS)
            wide = chance.randint(1, 6)
            text = "".join(chance.choices([*manner, "\n", "a", "n", "\\"], k=chance.randint(1, 15)))
            many = far(text, manner, wide)
            for near in oracle.neighbours(text, [sign for sign in (*manner, "\n") if sign]):
                with self.subTest(text=text, near=near, manner=manner, wide=wide):
                    self.assertLessEqual(abs(far(near, manner, wide) - many), 1)

    def test_texts_of_none_to_sixteen_signs(self):
        chance = random.Random(24)
        for many in range(17):
            for manner in oracle.MANNERS:
                text = "".join(chance.choices(",;|:\"'\\\nan 0", k=many))
                for wide in range(1, 7):
                    with self.subTest(text=text, manner=manner, wide=wide):
                        self.check_mended(text, manner, wide, far(text, manner, wide))


if __name__ == "__main__":
    unittest.main()
