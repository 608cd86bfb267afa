"""Numbers as texts, which the other modules read and write with."""

import unittest

from partsmith.words import number_text, read_number, read_signed


class Numbers(unittest.TestCase):
    def test_written_at_any_size(self):
        for number in (0, 1, -1, 10, -10, 10 ** 64 - 1, 10 ** 64, -(10 ** 64), -(10 ** 130) - 5):
            self.assertEqual(number_text(number), str(number))
        self.assertEqual(number_text(10 ** 5000), "1" + "0" * 5000)
        self.assertEqual(number_text(-(10 ** 5000)), "-1" + "0" * 5000)

    def test_read_up_to_the_told_figures(self):
        self.assertEqual(read_number("999", 3), 999)
        self.assertEqual(read_number("0", 3), 0)
        for text in ("", "1000", "00", "012", "-1", "+1", " 1", "1 ", "1\n", "1_0", "\u0663"):
            self.assertIsNone(read_number(text, 3))

    def test_read_with_a_sign(self):
        self.assertEqual(read_signed("-999", 3), -999)
        self.assertEqual(read_signed("999", 3), 999)
        self.assertEqual(read_signed("0", 3), 0)
        for text in ("", "-", "-0", "--1", "-1000", "-012", "- 1", "+1", "\u22121"):
            self.assertIsNone(read_signed(text, 3))


if __name__ == "__main__":
    unittest.main()
