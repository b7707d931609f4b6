import unittest

from tablemanners.manners import all_manners
from tests import oracle


class Manners(unittest.TestCase):
    def test_the_twenty_four_in_their_order(self):
        told = all_manners()
        self.assertIs(type(told), list)
        self.assertEqual(told, oracle.MANNERS)
        self.assertEqual(len(told), 24)

    def test_each_is_a_triple_of_texts(self):
        for manner in all_manners():
            self.assertIs(type(manner), tuple)
            self.assertEqual([type(part) for part in manner], [str, str, str])

    def test_a_new_list_at_each_call(self):
        told = all_manners()
        told.clear()
        self.assertEqual(all_manners(), oracle.MANNERS)
        self.assertIsNot(all_manners(), all_manners())


if __name__ == "__main__":
    unittest.main()
