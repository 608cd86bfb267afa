"""Faults in a desk's text: point 22."""

import unittest

from partsmith.desk import answers
from partsmith.errors import BadDeed, BadScore

HEAD = ["player ann", "player bob", "instrument flute 0 0 0", "staff all ann bob", "bar 4/4 0", "bar 3/4 0", "upbeat 1/4",
        "notes 1 ann 0:0:3/4"]
NO_NAMES = ("Ann", "an-n", "a" * 13, "ann.", "a_b", "+", "\u00e4")
NO_NUMBERS = ("01", "-1", "+1", "1000", "00", "x", "1/1", "1.", "-0", "\u0663")
NO_LENGTHS = ("1/0", "01", "-1", "1/", "/4", "1/04", "10000", "1/10000", "x", "1/2/3", "1.5")
NO_ITEMS = ("r", "r:0", "0:0", "0:0:0", "0:1:3/4", "100:4:3/4", "r:3/4x", "0:0:03/4", ":0:3/4", "R:3/4", "ann", "-0:0:3/4")


class Faults(unittest.TestCase):
    def refused(self, word, *rows):
        """The last row is the one at fault."""
        with self.assertRaises(BadDeed) as caught:
            answers("\n".join(HEAD + list(rows)))
        self.assertEqual((caught.exception.place, caught.exception.word), (len(HEAD) + len(rows) - 1, word))

    def taken(self, *rows):
        return answers("\n".join(HEAD + list(rows)))


class Forms(Faults):
    def test_another_first_word(self):
        for word in ("plays", "Play", "parts", "lates", "share", "page", "puts", "x", "players", "bars", "Bar", "0", "-", "note",
                     "hold", "jumps", "repeats", "p", "play.", "end", "rest", "cue"):
            self.refused("row", word)
            self.refused("row", word + " ann 1")

    def test_play(self):
        self.assertEqual(self.taken("play"), ["0.1 1.1"])
        self.refused("row", "play 1")
        self.refused("row", "play play")

    def test_part(self):
        self.assertEqual(len(self.taken("part ann 1", "part ann 999")), 2)
        for deed in ("part", "part ann", "part 1", "part ann 1 1", "part 1 ann", "part ann ann"):
            self.refused("row", deed)
        for name in NO_NAMES:
            self.refused("row", "part %s 1" % name)
        for number in NO_NUMBERS:
            self.refused("row", "part ann " + number)

    def test_late(self):
        self.assertEqual(self.taken("late ann"), [""])
        for deed in ("late", "late ann 1", "late ann bob"):
            self.refused("row", deed)
        for name in NO_NAMES:
            self.refused("row", "late " + name)

    def test_shared(self):
        self.assertEqual(len(self.taken("shared all 0", "shared all 1")), 2)
        for deed in ("shared", "shared all", "shared 0", "shared all 0 1", "shared all all"):
            self.refused("row", deed)
        for name in NO_NAMES:
            self.refused("row", "shared %s 0" % name)
        for number in NO_NUMBERS:
            self.refused("row", "shared all " + number)

    def test_pages(self):
        self.assertEqual(self.taken("pages ann 1 0 0", "pages ann 999 999 9999/9999"), ["barred 0 0", "pages 0"])
        for deed in ("pages", "pages ann", "pages ann 1", "pages ann 1 9", "pages ann 1 9 0 0", "pages 1 ann 9 0"):
            self.refused("row", deed)
        for name in NO_NAMES:
            self.refused("row", "pages %s 1 9 0" % name)
        for number in NO_NUMBERS:
            self.refused("row", "pages ann %s 9 0" % number)
            self.refused("row", "pages ann 1 %s 0" % number)
        for length in NO_LENGTHS:
            self.refused("row", "pages ann 1 9 " + length)

    def test_put(self):
        self.assertEqual(self.taken("put 1 ann", "put 1 ann 0:0:3/4", "put 1 ann r:1/4 0:0:2/4"), [])
        for deed in ("put", "put 1", "put ann", "put ann 1", "put ann 1 0:0:3/4"):
            self.refused("row", deed)
        for name in NO_NAMES:
            self.refused("row", "put 1 %s 0:0:3/4" % name)
            self.refused("row", "put 1 " + name)
        for number in NO_NUMBERS:
            self.refused("row", "put %s ann 0:0:3/4" % number)
            self.refused("row", "put %s ann" % number)
        for item in NO_ITEMS:
            self.refused("row", "put 1 ann " + item)
            self.refused("row", "put 1 ann 0:0:3/4 " + item)

    def test_quiet_0(self):
        self.refused("row", "part ann 0")
        self.refused("row", "pages ann 0 9 1")

    def test_a_put_of_rests_alone(self):
        self.refused("row", "put 1 ann r:3/4")
        self.refused("row", "put 1 ann r:1/4 r:1/4 r:1/4")
        self.refused("row", "put 1 ann r:1/4")


class Names(Faults):
    def test_no_player(self):
        for name in ("cid", "all", "flute", "an", "annn", "0"):
            self.refused("name", "part %s 1" % name)
            self.refused("name", "late " + name)
            self.refused("name", "pages %s 1 9 0" % name)
            self.refused("name", "put 1 %s 0:0:3/4" % name)
            self.refused("name", "put 1 " + name)

    def test_no_staff(self):
        for name in ("ann", "flute", "none", "al", "alll", "1"):
            self.refused("name", "shared %s 0" % name)

    def test_in_a_score_that_tells_nothing(self):
        for deed in ("part ann 1", "late ann", "shared all 0", "pages ann 1 9 0", "put 0 ann", "put 0 ann 0:0:1"):
            with self.assertRaises(BadDeed) as caught:
                answers("\n" + deed)
            self.assertEqual((caught.exception.place, caught.exception.word), (1, "name"))


class BarsAndLengths(Faults):
    def test_no_bar(self):
        for bar in ("2", "3", "199", "200", "999"):
            self.refused("bar", "shared all " + bar)
            self.refused("bar", "put %s ann 0:0:3/4" % bar)
            self.refused("bar", "put %s ann" % bar)

    def test_bars_are_counted_from_0_behind_an_upbeat_and_without_one(self):
        self.assertEqual(self.taken("put 0 ann 0:0:1/4", "shared all 0"), ["ann 0:0:1/4 | bob rest"])
        self.assertEqual(answers("player a\nbar 4/4 0\nput 0 a 0:0:1\npart a 1"), ["1=0:0:1"])
        with self.assertRaises(BadDeed) as caught:
            answers("player a\nbar 4/4 0\nput 1 a 0:0:1\npart a 1")
        self.assertEqual((caught.exception.place, caught.exception.word), (2, "bar"))

    def test_a_length_that_is_not_the_bar_s(self):
        for items in ("0:0:1/2", "0:0:1", "0:0:3/4 r:1/4", "r:1/4 0:0:1/4", "0:0:7499/9999"):
            self.refused("length", "put 1 ann " + items)
        self.refused("length", "put 0 ann 0:0:1")
        self.refused("length", "put 0 bob 0:0:3/4")


class Order(Faults):
    def test_row_ahead_of_all(self):
        self.refused("row", "part cid 0")
        self.refused("row", "pages cid 0 9 0")
        self.refused("row", "pages cid 1 9 x")
        self.refused("row", "shared none x")
        self.refused("row", "put 9 cid r:1")
        self.refused("row", "put 9 ann r:1")
        self.refused("row", "put 1 cid 0:0:1 x")
        self.refused("row", "late cid cid")

    def test_name_ahead_of_bar_and_length(self):
        self.refused("name", "shared none 9")
        self.refused("name", "put 9 cid 0:0:1")
        self.refused("name", "put 9 cid")
        self.refused("name", "put 1 cid 0:0:1")

    def test_bar_ahead_of_length(self):
        self.refused("bar", "put 9 ann 0:0:5")

    def test_the_first_of_two_deeds(self):
        for first, word in (("play 1", "row"), ("part cid 1", "name"), ("shared all 9", "bar"), ("put 1 ann 0:0:1", "length")):
            for second in ("play 1", "part cid 1", "shared all 9", "put 1 ann 0:0:1"):
                with self.assertRaises(BadDeed) as caught:
                    answers("\n".join(["", "play", first, ""] + HEAD + ["play", second]))
                self.assertEqual((caught.exception.place, caught.exception.word), (2, word))

    def test_behind_deeds_without_a_fault(self):
        self.refused("name", "play", "", "part ann 1", "put 1 ann", "   ", "shared all 1", "late cid")

    def test_what_a_put_left_is_no_fault(self):
        self.refused("length", "put 1 ann", "part ann 1", "put 1 ann 0:0:1/4")


class TheScoreFirst(unittest.TestCase):
    def refused(self, place, word, *rows):
        with self.assertRaises(BadScore) as caught:
            answers("\n".join(rows))
        self.assertEqual((caught.exception.place, caught.exception.word), (place, word))

    def test_behind_a_deed_at_fault(self):
        self.refused(2, "twice", "player ann", "nothing", "player ann")
        self.refused(9, "row", *HEAD, "part cid 0", "bar 4/4")

    def test_numbers_in_the_whole_text(self):
        self.refused(4, "name", "play", "", "bar 4/4 0", "part ann 1", "notes 0 ann 0:0:1", "player ann")
        self.refused(3, "length", "player ann", "play", "bar 4/4 0", "notes 0 ann 0:0:1/2", "play")

    def test_each_word(self):
        self.refused(1, "bar", "play", "upbeat 1/4")
        self.refused(3, "form", "play", "bar 4/4 0", "bar 4/4 0", "repeat 1 0 2")
        self.refused(201, "many", "play", *["bar 4/4 0"] * 201)

    def test_rows_of_the_score_s_words_are_never_deeds(self):
        for word in ("player", "instrument", "staff", "bar", "upbeat", "holds", "notes", "repeat", "jump"):
            self.refused(1, "row", "nothing", word)
            self.refused(1, "row", "nothing", "  " + word + "  ? ")

    def test_what_is_put_is_not_the_score_s(self):
        self.refused(4, "twice", "player a", "bar 4/4 0", "put 0 a", "notes 0 a 0:0:1", "notes 0 a 0:0:1")
        self.assertEqual(answers("player a\nbar 4/4 0\nput 0 a 0:0:1\nnotes 0 a 1:7:1\npart a 1"), ["1=0:0:1"])


if __name__ == "__main__":
    unittest.main()
