"""The names and arguments of the document's interface."""

import inspect
import unittest

from tablemanners import answers, finding, manners, mending, reading, writing

FUNCTIONS = [
    (manners, "all_manners", []),
    (reading, "read", ["text", "manner"]),
    (reading, "survey", ["text", "manner", "wide"]),
    (writing, "written", ["rows", "manner"]),
    (writing, "unwritable", ["rows", "manner"]),
    (writing, "turned", ["text", "manner", "other"]),
    (finding, "fitting", ["text"]),
    (finding, "manner_of", ["text"]),
    (finding, "parted", ["one", "other"]),
    (mending, "far", ["text", "manner", "wide"]),
    (mending, "mended", ["text", "manner", "wide"]),
]

ANSWERS = [
    ("Table", ["rows"], ["text", "manner"]),
    ("Broken", ["place"], ["text", "manner"]),
    ("Only", ["manner"], ["text"]),
    ("Both", ["one", "other", "row", "cell"], ["text"]),
    ("Unfit", [], ["text"]),
    ("Mended", ["text"], ["text", "manner", "wide"]),
]


class Interface(unittest.TestCase):
    def test_functions(self):
        for module, name, arguments in FUNCTIONS:
            function = getattr(module, name)
            self.assertEqual(function.__module__, module.__name__)
            self.assertEqual(list(inspect.signature(function).parameters), arguments)

    def test_answers(self):
        for name, fields, asked in ANSWERS:
            answer = getattr(answers, name)
            self.assertEqual(list(inspect.signature(answer).parameters), fields)
            self.assertEqual(list(inspect.signature(answer.shows).parameters), ["self", *asked])
            self.assertEqual(list(vars(answer(*[7] * len(fields)))), fields)


if __name__ == "__main__":
    unittest.main()
