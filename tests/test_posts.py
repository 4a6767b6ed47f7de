"""Pairs of posts as the program tells them, point 7, and posts that are not there."""

import unittest

from postmead.errors import NoPost
from postmead.posts import need_post, need_two, pair_of


class TestPairOf(unittest.TestCase):
    def test_the_lesser_post_first(self):
        self.assertEqual(pair_of(2, 5), (2, 5))
        self.assertEqual(pair_of(5, 2), (2, 5))
        self.assertEqual(pair_of(-10 ** 30, 10 ** 30), (-10 ** 30, 10 ** 30))
        self.assertEqual(pair_of(4, 4), (4, 4))


class TestNeed(unittest.TestCase):
    def test_posts_that_are_there(self):
        for n in (3, 12):
            for a in range(n):
                self.assertIsNone(need_post(n, a))
                for b in range(n):
                    if a != b:
                        self.assertIsNone(need_two(n, a, b))

    def test_posts_that_are_not_there(self):
        for post in (3, 4, -1, 10 ** 5000, -10 ** 5000):
            with self.assertRaises(NoPost):
                need_post(3, post)
            for a, b in ((post, 0), (2, post), (post, post), (post, -post)):
                with self.assertRaises(NoPost):
                    need_two(3, a, b)

    def test_one_post_twice(self):
        for post in range(3):
            with self.assertRaises(NoPost):
                need_two(3, post, post)


if __name__ == "__main__":
    unittest.main()
