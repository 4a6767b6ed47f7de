"""Pairs of posts as the program tells them, point 7."""

import unittest

from postmead.posts import pair_of


class TestPairOf(unittest.TestCase):
    def test_the_lesser_post_first(self):
        self.assertEqual(pair_of(2, 5), (2, 5))
        self.assertEqual(pair_of(5, 2), (2, 5))
        self.assertEqual(pair_of(-10 ** 30, 10 ** 30), (-10 ** 30, 10 ** 30))
        self.assertEqual(pair_of(4, 4), (4, 4))


if __name__ == "__main__":
    unittest.main()
