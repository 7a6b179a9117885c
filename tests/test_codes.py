import unittest

from gatetown.codes import row_of, word_of

NAMES = ["set", "load", "store", "add", "take", "both", "goto", "zero",
         "below", "from", "into", "move", "link", "call", "own", "back"]


class CodesTest(unittest.TestCase):
    def test_each_op_there_and_back(self):
        for op, name in enumerate(NAMES):
            for number in [0, 1, 17, 2048, 4094, 4095]:
                self.assertEqual(word_of(name, number), op * 4096 + number)
                self.assertEqual(row_of(op * 4096 + number), (name, number))

    def test_some_words(self):
        self.assertEqual(word_of("set", 0), 0)
        self.assertEqual(word_of("call", 3), 53251)
        self.assertEqual(word_of("back", 4095), 65535)
        self.assertEqual(row_of(0), ("set", 0))
        self.assertEqual(row_of(45059), ("move", 3))
        self.assertEqual(row_of(65535), ("back", 4095))

    def test_all_words_there_and_back(self):
        for word in range(65536):
            row = row_of(word)
            self.assertEqual(row, (NAMES[word // 4096], word % 4096))
            self.assertEqual(word_of(row[0], row[1]), word)

    def test_the_kinds_of_what_is_told(self):
        self.assertIs(type(word_of("set", 1)), int)
        row = row_of(4097)
        self.assertIs(type(row), tuple)
        self.assertEqual([type(one) for one in row], [str, int])

    def test_a_number_beyond_is_not_refused(self):
        self.assertIs(type(word_of("load", 4096)), int)
        self.assertEqual(len(row_of(65536)), 2)


if __name__ == "__main__":
    unittest.main()
