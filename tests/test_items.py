"""Items written and read: point 5."""

import unittest

from partsmith.pitches import item_text, read_item

GOOD_LENGTHS = (("1/8", (1, 8)), ("6/16", (3, 8)), ("4/2", (2, 1)), ("1", (1, 1)), ("9999", (9999, 1)),
                ("1/9999", (1, 9999)))
NO_LENGTHS = ("", "0", "0/4", "00", "01", "1/0", "1/04", "10000", "1/10000", "-1", "1/", "/4", "1/4/4", "1/4 ",
              " 1/4", "1/4\n", "+1/4", "1.5", "r", "\u0663/4")
# Multiples of 12 in either place make a pitch, so it is the form alone that tells against these.
NO_NUMBERS = ("", "-", "-0", "+0", "00", "012", "-012", "--12", "+12", "12-", "1-2", "108", "-108", "0108", " 12", "12 ",
              "- 12", "12\n", "12/1", "12.0", "1_2", "x", "\u0661\u0662", "12" * 2500, "\u221212")


class Written(unittest.TestCase):
    def test_notes(self):
        self.assertEqual(item_text(((-3, 3), (1, 8))), "-3:3:1/8")
        self.assertEqual(item_text(((0, 0), (1, 1))), "0:0:1")
        self.assertEqual(item_text(((-99, -93), (3, 4))), "-99:-93:3/4")

    def test_rests(self):
        self.assertEqual(item_text((None, (1, 4))), "r:1/4")
        self.assertEqual(item_text((None, (2, 1))), "r:2")

    def test_turned_pitches_beyond_99(self):
        self.assertEqual(item_text(((106, 142), (1, 4))), "106:142:1/4")
        self.assertEqual(item_text(((-106, -142), (1, 4))), "-106:-142:1/4")

    def test_lengths_of_any_size(self):
        self.assertEqual(item_text((None, (10 ** 5000, 1))), "r:1" + "0" * 5000)


class Read(unittest.TestCase):
    def none(self, text):
        with self.subTest(text=text):
            self.assertIsNone(read_item(text))

    def test_items_of_the_document(self):
        self.assertEqual(read_item("-3:3:1/8"), ((-3, 3), (1, 8)))
        self.assertEqual(read_item("r:1/4"), (None, (1, 4)))

    def test_told_are_tuples(self):
        note = read_item("-3:3:1/8")
        self.assertEqual([type(note), type(note[0]), type(note[1])], [tuple, tuple, tuple])
        self.assertIs(type(read_item("r:1/4")), tuple)

    def test_what_is_written_is_read(self):
        for fifths in range(-99, 100):
            for steps in range(-99, 100):
                if (steps - 7 * fifths) % 12 == 0:
                    item = ((fifths, steps), (3, 8))
                    self.assertEqual(read_item(item_text(item)), item)
        for top in range(1, 20):
            item = (None, (top, 1))
            self.assertEqual(read_item(item_text(item)), item)

    def test_each_pair_in_and_round_the_bounds(self):
        for fifths in range(-103, 104):
            for steps in range(-103, 104):
                pitched = abs(fifths) <= 99 and abs(steps) <= 99 and (steps - 7 * fifths) % 12 == 0
                due = ((fifths, steps), (1, 4)) if pitched else None
                self.assertEqual(read_item(str(fifths) + ":" + str(steps) + ":1/4"), due)

    def test_edges_of_a_pitch(self):
        self.assertEqual(read_item("99:-99:1"), ((99, -99), (1, 1)))
        self.assertEqual(read_item("-99:99:1"), ((-99, 99), (1, 1)))
        # Each of these but the last two would be a pitch if the bounds were wider.
        for text in ("100:4:1", "-100:-4:1", "4:100:1", "-4:-100:1", "106:142:1", "0:1:1", "1:0:1"):
            self.none(text)

    def test_numbers_that_are_none(self):
        for text in ("12", "-12", "0", "96", "-96"):
            self.assertEqual(read_item(text + ":0:1/4"), ((int(text), 0), (1, 4)))
            self.assertEqual(read_item("0:" + text + ":1/4"), ((0, int(text)), (1, 4)))
        for text in NO_NUMBERS:
            self.none(text + ":0:1/4")
            self.none("0:" + text + ":1/4")
            self.none(text + ":" + text + ":1/4")

    def test_noughts_ahead_of_a_pitch_of_the_form(self):
        self.assertEqual(read_item("1:7:1/4"), ((1, 7), (1, 4)))
        for text in ("01:7:1/4", "1:07:1/4", "-01:-7:1/4", "-1:-07:1/4", "-0:0:1/4", "0:-0:1/4", "00:0:1/4"):
            self.none(text)

    def test_lengths(self):
        for text, length in GOOD_LENGTHS:
            self.assertEqual(read_item("r:" + text), (None, length))
            self.assertEqual(read_item("-3:3:" + text), ((-3, 3), length))

    def test_lengths_that_are_none(self):
        for text in NO_LENGTHS:
            self.none("r:" + text)
            self.none("-3:3:" + text)

    def test_parts_too_few_or_too_many(self):
        for text in ("", ":", "::", ":::", "r", "r:", ":1/4", "1/4", "3:1/4", "-3:1/4", "r:r:1/4", "r:0:1/4", "0:r:1/4",
                     "r:1/4:", ":r:1/4", "-3:3", "-3:3:", "-3:3:1/8:", ":-3:3:1/8", "-3:3:1/8:1/8", "-3::3:1/8",
                     "0:0:0:1/4", "r:1/4:1/4"):
            self.none(text)

    def test_rests_of_another_form(self):
        for text in ("R:1/4", "rr:1/4", "-r:1/4", " r:1/4", "r :1/4", "r: 1/4", "r:1/4 ", "r:1/4\n", "\nr:1/4", "x:1/4",
                     "r;1/4", "None:1/4"):
            self.none(text)

    def test_blanks_and_line_ends_round_a_note(self):
        for text in (" -3:3:1/8", "-3 :3:1/8", "-3: 3:1/8", "-3:3 :1/8", "-3:3: 1/8", "-3:3:1/8 ", "-3:3:1/8\n",
                     "\n-3:3:1/8", "- 3:3:1/8"):
            self.none(text)


if __name__ == "__main__":
    unittest.main()
