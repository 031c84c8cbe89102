"""Promise [2] and the interface's part words, with [1] as far as it speaks of them."""

import unittest

from lanepacks.words import DEEDS, done

EDGES = (0, 1, 2, 7, 31, 32, 499, 500, 501, 998, 999)

# Deed, first word, second word, what is made: written out, not reckoned.
TWO = [
    ("plus", 2, 3, 5), ("plus", 0, 0, 0), ("plus", 999, 0, 999), ("plus", 0, 999, 999),
    ("plus", 999, 1, 0), ("plus", 1, 999, 0), ("plus", 999, 999, 998), ("plus", 500, 499, 999),
    ("plus", 500, 500, 0), ("plus", 600, 700, 300),
    ("minus", 5, 3, 2), ("minus", 0, 0, 0), ("minus", 999, 999, 0), ("minus", 999, 0, 999),
    ("minus", 0, 1, 999), ("minus", 0, 999, 1), ("minus", 3, 5, 998), ("minus", 1, 1, 0),
    ("times", 6, 7, 42), ("times", 0, 999, 0), ("times", 999, 0, 0), ("times", 1, 999, 999),
    ("times", 999, 1, 999), ("times", 999, 999, 1), ("times", 999, 2, 998), ("times", 40, 25, 0),
    ("times", 37, 27, 999), ("times", 123, 45, 535),
    ("least", 4, 9, 4), ("least", 9, 4, 4), ("least", 5, 5, 5), ("least", 0, 999, 0), ("least", 999, 0, 0),
    ("least", 0, 1, 0), ("least", 999, 999, 999), ("least", 0, 0, 0),
    ("most", 4, 9, 9), ("most", 9, 4, 9), ("most", 5, 5, 5), ("most", 0, 999, 999), ("most", 999, 0, 999),
    ("most", 0, 1, 1), ("most", 999, 999, 999), ("most", 0, 0, 0),
    ("less", 4, 9, 1), ("less", 9, 4, 0), ("less", 5, 5, 0), ("less", 0, 1, 1), ("less", 1, 0, 0),
    ("less", 0, 0, 0), ("less", 998, 999, 1), ("less", 999, 998, 0), ("less", 999, 999, 0), ("less", 0, 999, 1),
    ("over", 17, 5, 3), ("over", 15, 5, 3), ("over", 14, 5, 2), ("over", 4, 5, 0), ("over", 0, 1, 0),
    ("over", 0, 999, 0), ("over", 1, 1, 1), ("over", 999, 1, 999), ("over", 999, 999, 1), ("over", 998, 999, 0),
    ("over", 999, 2, 499), ("over", 0, 0, None), ("over", 1, 0, None), ("over", 999, 0, None),
]

PICKS = [
    (1, 5, 6, 5), (0, 5, 6, 6), (2, 5, 6, 5), (999, 5, 6, 5), (1, 0, 6, 0), (0, 5, 0, 0),
    (1, 999, 0, 999), (0, 0, 999, 999), (0, 999, 0, 0), (999, 0, 999, 0), (0, 7, 7, 7), (0, 1, 2, 2),
]


class Deeds(unittest.TestCase):
    def test_the_seven_in_their_order(self):
        self.assertIsInstance(DEEDS, tuple)
        self.assertEqual(DEEDS, ("plus", "minus", "times", "least", "most", "less", "over"))


class Done(unittest.TestCase):
    def test_of_two_words(self):
        for deed, first, second, made in TWO:
            with self.subTest(deed, first=first, second=second):
                self.assertEqual(done(deed, [first, second]), made)

    def test_every_deed_has_rows_here(self):
        self.assertEqual({row[0] for row in TWO}, set(DEEDS))

    def test_pick(self):
        for c, a, b, made in PICKS:
            with self.subTest(c=c, a=a, b=b):
                self.assertEqual(done("pick", [c, a, b]), made)

    def test_a_word_is_made_and_no_truth(self):
        for deed in DEEDS:
            for first in EDGES:
                for second in EDGES:
                    made = done(deed, [first, second])
                    if deed == "over" and second == 0:
                        self.assertIsNone(made)
                        continue
                    self.assertIs(type(made), int)
                    self.assertTrue(0 <= made <= 999, (deed, first, second, made))

    def test_over_by_nought_alone_makes_none(self):
        for word in range(1000):
            self.assertIsNone(done("over", [word, 0]))
            self.assertIsNotNone(done("over", [0, word]) if word else 0)

    def test_what_is_handed_in_stays(self):
        for deed in DEEDS + ("pick",):
            words = [999, 0, 5] if deed == "pick" else [999, 0]
            kept = list(words)
            done(deed, words)
            self.assertEqual(words, kept, deed)

    def test_nothing_is_kept(self):
        words = [2, 3]
        self.assertEqual(done("plus", words), 5)
        words[0] = 10
        self.assertEqual(done("plus", words), 13)
        self.assertEqual(done("plus", [2, 3]), 5)


if __name__ == "__main__":
    unittest.main()
