import copy
import random
import unittest

from gatetown.signs import text_of_words, words_of_text
from drawn import flags_in

SIGNS = " abcdefghijklmnopqrstuvwxyz0123456789[]()+-&<="


class SignsTest(unittest.TestCase):
    def test_each_sign_there_and_back(self):
        self.assertEqual(len(SIGNS), 46)
        for place, sign in enumerate(SIGNS, start=1):
            self.assertEqual(words_of_text(sign), [place])
            self.assertEqual(text_of_words([place]), (sign, None))
        self.assertEqual(words_of_text(SIGNS), list(range(1, 47)))
        self.assertEqual(text_of_words(list(range(1, 47))), (SIGNS, None))

    def test_some_in_figures(self):
        self.assertEqual(words_of_text(" az09[="), [1, 2, 27, 28, 37, 38, 46])

    def test_line_feeds(self):
        self.assertEqual(words_of_text("\n"), [0])
        self.assertEqual(words_of_text("a\n\nb\n"), [2, 0, 0, 3, 0])
        self.assertEqual(text_of_words([0]), ("\n", None))
        self.assertEqual(text_of_words([0, 2, 0, 0, 3, 0]), ("\na\n\nb\n", None))

    def test_nothing(self):
        self.assertEqual(words_of_text(""), [])
        self.assertEqual(text_of_words([]), ("", None))

    def test_signs_that_have_no_number(self):
        others = [chr(number) for number in range(32, 127) if chr(number) not in SIGNS]
        self.assertEqual(len(others), 95 - 46)
        for sign in others + ["A", ".", ",", ":", "~"]:
            for text in [sign, "a" + sign, sign + "a", "a\n" + sign + "\nb"]:
                self.assertIsNone(words_of_text(text), text)

    def test_words_beyond(self):
        for word in [47, 48, 100, 4096, 65535]:
            self.assertEqual(text_of_words([word]), (None, 0))
            self.assertEqual(text_of_words([2, 2, word, 2]), (None, 0))
            self.assertEqual(text_of_words([0, word]), (None, 1))
            self.assertEqual(text_of_words([word, 0, 0]), (None, 0))
            self.assertEqual(text_of_words([0, 2, 0, 0, 3, word, 0, 99, 0]), (None, 3))
            self.assertEqual(text_of_words([0, 0, 46, 0, word]), (None, 3))
        self.assertEqual(text_of_words([0, 46, 0, 46]), ("\n=\n=", None))

    def test_drawn_texts_there_and_back(self):
        source = random.Random(94)
        for _ in range(200):
            text = "".join(source.choice(SIGNS + "\n\n") for _ in range(source.randrange(30)))
            words = words_of_text(text)
            self.assertEqual(words, [0 if sign == "\n" else SIGNS.find(sign) + 1 for sign in text])
            before = copy.deepcopy(words)
            self.assertEqual(text_of_words(words), (text, None))
            self.assertEqual(words, before)
            self.assertEqual(flags_in([words, text_of_words(words)[1]]), [])
            self.assertIsNot(words_of_text(text), words)

    def test_drawn_words(self):
        source = random.Random(95)
        for _ in range(300):
            words = [source.choice([0, 1, 20, 46, 46, 2, 47, 65535]) for _ in range(source.randrange(12))]
            bad = [place for place, word in enumerate(words) if word > 46]
            if bad:
                self.assertEqual(text_of_words(words), (None, words[:bad[0]].count(0)))
            else:
                self.assertEqual(words_of_text(text_of_words(words)[0]), words)


if __name__ == "__main__":
    unittest.main()
