"""The forms of a score's rows: point 6, and the word "row" of point 7."""

import unittest

from partsmith.errors import BadScore
from partsmith.forms import read_name, words_of
from partsmith.scores import read_score

# Whatever the row at the end needs is told ahead of it, so that its form alone tells against it.
HEAD = ["player ann", "player bob", "instrument flute 0 0 0", "bar 4/4 0", "bar 4/4 0", "bar 4/4 0", "bar 4/4 0"]
NO_NAMES = ("Ann", "a-b", "a_b", "a.b", "a:b", "abcdefghijklm", "1234567890123", "a,", "\u00e4", "a\t", "+", "-", "A")
NO_NUMBERS = ("00", "01", "001", "1000", "0000", "-1", "-0", "+1", "1.0", "1_0", "x", "1/1", "1,", "\u0661", "-")
NO_LENGTHS = ("", "01", "1/0", "1/04", "10000", "1/10000", "-1", "-0", "1/", "/4", "1/4/4", "+1/4", "1.5", "r", "1:4")


class Case(unittest.TestCase):
    def told(self, *rows):
        return read_score("\n".join(HEAD + list(rows)))

    def refused(self, row):
        with self.subTest(row=row):
            with self.assertRaises(BadScore) as taken:
                self.told(row)
            self.assertEqual((taken.exception.place, taken.exception.word), (len(HEAD), "row"))


class Words(Case):
    def test_blanks_ahead_between_and_behind(self):
        score = read_score("   player   ann  \n bar  3/4    -2   solo \n  notes 0   ann r:1/4    0:0:1/2   ")
        self.assertEqual(score.players, ["ann"])
        self.assertEqual(score.bars, [((3, 4), -2, ("solo",))])
        self.assertEqual(score.notes, {(0, "ann"): [(None, (1, 4)), ((0, 0), (1, 2))]})

    def test_rows_without_words_are_passed_over(self):
        score = read_score("\n\n   \nplayer ann\n \n\nplayer bob\n\n")
        self.assertEqual(score.players, ["ann", "bob"])

    def test_rows_without_words_are_counted(self):
        for ahead in ("", "\n", "\n   \n\n"):
            with self.assertRaises(BadScore) as taken:
                read_score(ahead + "player ann\n \nnone")
            self.assertEqual((taken.exception.place, taken.exception.word), (ahead.count("\n") + 2, "row"))

    def test_words_of_a_row(self):
        for row, words in (("", []), ("   ", []), ("a", ["a"]), ("  a   b c ", ["a", "b", "c"]), ("a\tb", ["a\tb"])):
            self.assertEqual(words_of(row), words)

    def test_texts_without_rows(self):
        for text in ("", " ", "\n", "   \n  \n"):
            score = read_score(text)
            self.assertEqual((score.players, score.bars, score.jump), ([], [], None))

    def test_another_first_word(self):
        for row in ("none", "Player cid", "players cid", "playe cid", "PLAYER cid", "instruments x 0 0 0", "staffs s ann",
                    "bars 4/4 0", "hold ann 0 flute", "note 0 ann 0:0:1", "repeats 0 1 2", "jumps 1 0 1 end", "play",
                    "part ann 1", "put 0 ann", "0", "-", "player: cid", "# player cid", "up beat 1/4", "end"):
            self.refused(row)

    def test_a_first_word_alone(self):
        for word in ("player", "instrument", "staff", "bar", "upbeat", "holds", "notes", "repeat", "jump"):
            self.refused(word)
            self.refused("  " + word + "  ")


class Names(Case):
    def test_of_one_to_twelve_signs(self):
        for name in ("a", "z", "0", "9", "007", "abcdefghijkl", "123456789012", "player", "end", "r"):
            self.assertEqual(self.told("player " + name).players, ["ann", "bob", name])
            self.assertEqual(list(self.told("instrument " + name + " 0 0 0").instruments), ["flute", name])
            self.assertEqual(self.told("staff " + name + " ann").staffs, {name: ("ann",)})
            self.assertEqual(self.told("bar 4/4 0 " + name).bars[4], ((4, 4), 0, (name,)))

    def test_of_no_signs(self):
        self.assertIsNone(read_name(""))

    def test_all_signs(self):
        for number in range(ord(" ") + 1, ord("~") + 1):
            sign = chr(number)
            for name in (sign, "a" + sign, sign + "a"):
                if sign in "abcdefghijklmnopqrstuvwxyz0123456789":
                    self.assertEqual(self.told("player " + name).players[2], name)
                else:
                    self.refused("player " + name)

    def test_other_names_in_each_place(self):
        for name in NO_NAMES:
            for row in ("player {}", "instrument {} 0 0 0", "staff {} ann", "staff s {}", "staff s ann {}", "bar 4/4 0 {}",
                        "bar 4/4 0 solo {}", "bar 4/4 0 {} solo", "holds {} 0 flute", "holds ann 0 {}",
                        "notes 0 {} 0:0:1"):
                self.refused(row.format(name))


class Players(Case):
    def test_read(self):
        self.assertEqual(self.told("player cid").players, ["ann", "bob", "cid"])

    def test_count_of_words(self):
        self.refused("player cid dan")


class Instruments(Case):
    def test_read(self):
        score = self.told("instrument clarinet 2 2 1/4", "instrument horn 1 -5 0", "instrument tuba -12 -48 6/16")
        self.assertEqual(score.instruments, {"flute": ((0, 0), (0, 1)), "clarinet": ((2, 2), (1, 4)),
                                             "horn": ((1, -5), (0, 1)), "tuba": ((-12, -48), (3, 8))})

    def test_count_of_words(self):
        for row in ("instrument x 0 0", "instrument x 0", "instrument x", "instrument x 0 0 0 0", "instrument 0 0 0"):
            self.refused(row)

    def test_turns_within_and_beyond_their_bounds(self):
        for fifths in range(-14, 15):
            for steps in list(range(-110, -90)) + list(range(-13, 14)) + list(range(90, 111)):
                row = "instrument x " + str(fifths) + " " + str(steps) + " 0"
                if -12 <= fifths <= 12 and -99 <= steps <= 99 and (steps - 7 * fifths) % 12 == 0:
                    self.assertEqual(self.told(row).instruments["x"], ((fifths, steps), (0, 1)))
                else:
                    self.refused(row)

    def test_turns_of_another_form(self):
        for word in ("-0", "00", "012", "-012", "+12", "1000", "-1000", "x", "12.0", "0/1", "--12", "-", "999", "-999"):
            self.refused("instrument x " + word + " 0 0")
            self.refused("instrument x 0 " + word + " 0")

    def test_times_that_are_none(self):
        for word in NO_LENGTHS:
            if word != "":
                self.refused("instrument x 0 0 " + word)


class Staffs(Case):
    def test_read(self):
        score = self.told("staff high ann", "staff low bob")
        self.assertEqual(score.staffs, {"high": ("ann",), "low": ("bob",)})
        self.assertEqual(self.told("staff both bob ann").staffs, {"both": ("bob", "ann")})

    def test_one_player_at_least(self):
        self.refused("staff s")


class Bars(Case):
    def test_read(self):
        score = self.told("bar 6/8 -3", "bar 2/2 7 fermata solo solo")
        self.assertEqual(score.bars[4:], [((6, 8), -3, ()), ((2, 2), 7, ("fermata", "solo", "solo"))])

    def test_metres_within_and_beyond_their_bounds(self):
        for top in range(0, 40):
            for bottom in range(0, 70):
                row = "bar " + str(top) + "/" + str(bottom) + " 0"
                if 1 <= top <= 32 and bottom in (1, 2, 4, 8, 16, 32):
                    self.assertEqual(self.told(row).bars[4], ((top, bottom), 0, ()))
                else:
                    self.refused(row)

    def test_metres_of_another_form(self):
        for word in ("4", "4/", "/4", "4/4/4", "04/4", "4/04", "-4/4", "4/-4", "4:4", "4,4", "x/4", "4/x", "+4/4", "100/4",
                     "4/100", "1000/4", "4/1000", "4/4/", "/4/4", "//"):
            self.refused("bar " + word + " 0")

    def test_keys_within_and_beyond_their_bounds(self):
        for key in range(-20, 21):
            row = "bar 4/4 " + str(key)
            if -7 <= key <= 7:
                self.assertEqual(self.told(row).bars[4], ((4, 4), key, ()))
            else:
                self.refused(row)

    def test_keys_of_another_form(self):
        for word in ("-0", "00", "01", "-01", "+1", "1/1", "x", "-", "1000", "-1000", "--1", "c"):
            self.refused("bar 4/4 " + word)

    def test_words_too_few(self):
        for row in ("bar 4/4", "bar 0", "bar 0 4/4", "bar solo 4/4 0"):
            self.refused(row)


class Upbeats(Case):
    def test_read(self):
        for word, length in (("1/4", (1, 4)), ("6/16", (3, 8)), ("4/9999", (4, 9999)), ("9998/9999", (9998, 9999))):
            self.assertEqual(self.told("upbeat " + word).upbeat, length)

    def test_above_0(self):
        for word in ("0", "0/4", "0/1"):
            self.refused("upbeat " + word)

    def test_lengths_that_are_none(self):
        for word in NO_LENGTHS:
            self.refused("upbeat " + word)

    def test_count_of_words(self):
        self.refused("upbeat 1/4 1/4")
        self.refused("upbeat 1 4")


class Holds(Case):
    def test_read(self):
        score = self.told("holds ann 0 flute", "holds ann 3 flute", "holds bob 2 flute")
        self.assertEqual(score.holds, {"ann": [(0, "flute"), (3, "flute")], "bob": [(2, "flute")]})

    def test_numbers_of_another_form(self):
        for word in NO_NUMBERS:
            self.refused("holds ann " + word + " flute")

    def test_count_of_words(self):
        for row in ("holds ann 0", "holds ann flute", "holds ann", "holds ann 0 flute flute", "holds ann 0 1 flute",
                    "holds 0 ann flute"):
            self.refused(row)


class Notes(Case):
    def test_read(self):
        score = self.told("notes 1 ann -3:3:1/8 r:1/8 0:0:6/8", "notes 0 bob 0:12:1")
        self.assertEqual(score.notes, {(1, "ann"): [((-3, 3), (1, 8)), (None, (1, 8)), ((0, 0), (3, 4))],
                                       (0, "bob"): [((0, 12), (1, 1))]})

    def test_one_note_at_least(self):
        self.assertEqual(self.told("notes 0 ann r:1/2 0:0:1/2").notes[(0, "ann")][0], (None, (1, 2)))
        self.assertEqual(self.told("notes 0 ann 0:0:1/2 r:1/2").notes[(0, "ann")][1], (None, (1, 2)))
        for row in ("notes 0 ann r:1", "notes 0 ann r:1/2 r:1/2", "notes 0 ann"):
            self.refused(row)

    def test_items_that_are_none(self):
        for word in ("0:0", "0:1:1", "r", "r:0", "0:0:0", "100:0:1", "0:100:1", "0:0:1:1", "-0:0:1", "x:0:1", "0:0:1/0", "1",
                     "r:r:1", "00:0:1", "0:0:10000", "end", "ann"):
            self.refused("notes 0 ann " + word)
            self.refused("notes 0 ann 0:0:1 " + word)
            self.refused("notes 0 ann " + word + " 0:0:1")

    def test_numbers_of_another_form(self):
        for word in NO_NUMBERS:
            self.refused("notes " + word + " ann 0:0:1")

    def test_words_too_few(self):
        for row in ("notes 0", "notes ann 0:0:1", "notes 0 0:0:1", "notes ann 0 0:0:1"):
            self.refused(row)


class Repeats(Case):
    def test_read(self):
        score = self.told("repeat 0 1 2", "repeat 2 3 9 2:1,3,5,7 3:2,4,6,8,9")
        self.assertEqual(score.repeats, [(0, 1, 2, ()), (2, 3, 9, ((2, (1, 3, 5, 7)), (3, (2, 4, 6, 8, 9))))])

    def test_times_from_2_to_9(self):
        for times in range(0, 21):
            row = "repeat 0 1 " + str(times)
            if 2 <= times <= 9:
                self.assertEqual(self.told(row).repeats, [(0, 1, times, ())])
            else:
                self.refused(row)

    def test_numbers_of_another_form(self):
        for word in NO_NUMBERS:
            self.refused("repeat " + word + " 1 2")
            self.refused("repeat 0 " + word + " 2")
            self.refused("repeat 0 1 " + word)
        self.refused("repeat 0 1 02")

    def test_ends_of_another_form(self):
        for word in ("1", "1:", ":1,2", "1:1,2:", "1:1:2", "1;1,2", "1:1,2,", "1:,1,2", "1:1,,2", "1,1:2", "01:1,2",
                     "1:01,2", "1:1,02", "1000:1,2", "1:1,1000", "-1:1,2", "1:-1,2", "1:1,-2", "x:1,2", "1:x", "1:1,x",
                     "end", "1:1/2", "-0:1,2", "1:-0"):
            self.refused("repeat 0 1 2 " + word)
            self.refused("repeat 0 1 2 0:1 " + word)
            self.refused("repeat 0 1 2 " + word + " 1:2")

    def test_words_too_few(self):
        for row in ("repeat 0", "repeat 0 1", "repeat 0 1 0:1,2", "repeat 0:1,2"):
            self.refused(row)


class Jumps(Case):
    def test_read(self):
        self.assertEqual(self.told("jump 2 0 1 3").jump, (2, 0, 1, 3))
        self.assertEqual(self.told("jump 3 1 2 end").jump, (3, 1, 2, None))

    def test_numbers_of_another_form(self):
        for word in NO_NUMBERS + ("end", "End"):
            self.refused("jump " + word + " 0 1 3")
            self.refused("jump 2 " + word + " 1 3")
            self.refused("jump 2 0 " + word + " 3")
            self.refused("jump " + word + " 0 1 end")
        for word in NO_NUMBERS + ("End", "ends", "en", "none", "None", "coda"):
            self.refused("jump 2 0 1 " + word)

    def test_count_of_words(self):
        for row in ("jump 2", "jump 2 0", "jump 2 0 1", "jump 2 0 1 3 3", "jump 2 0 1 end end", "jump 2 0 end",
                    "jump 2 0 1 3 end", "jump end"):
            self.refused(row)


if __name__ == "__main__":
    unittest.main()
