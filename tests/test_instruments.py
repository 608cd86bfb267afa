"""A player's instrument at a bar, and late changes: point 12."""

import copy
import unittest

from partsmith.errors import NoBar, NoPlayer
from partsmith.playing import instrument_at, late_changes
from partsmith.scores import read_score

HEAD = ["player ann", "player bob", "instrument flute 0 0 1/4", "instrument horn 1 -5 1/2", "instrument drum 0 0 0",
        "instrument harp 0 0 9999"]


def read_rows(*rows):
    return read_score("\n".join(HEAD + list(rows)))


def bars(count):
    return "\n".join(["bar 4/4 0"] * count)


class Held(unittest.TestCase):
    def setUp(self):
        self.score = read_rows(bars(8), "holds ann 2 flute", "holds ann 3 horn", "holds ann 6 flute")

    def test_from_a_hold_on(self):
        told = [instrument_at(self.score, "ann", bar) for bar in range(8)]
        self.assertEqual(told, [None, None, "flute", "horn", "horn", "horn", "flute", "flute"])

    def test_without_holds(self):
        self.assertEqual([instrument_at(self.score, "bob", bar) for bar in range(8)], [None] * 8)

    def test_at_bar_0(self):
        score = read_rows(bars(2), "holds bob 0 horn")
        self.assertEqual([instrument_at(score, "bob", bar) for bar in (0, 1)], ["horn", "horn"])
        self.assertEqual([instrument_at(score, "ann", bar) for bar in (0, 1)], [None, None])

    def test_by_the_score_not_as_played(self):
        score = read_rows(bars(3), "holds ann 1 horn", "repeat 0 1 2", "jump 2 0 2 end")
        self.assertEqual([instrument_at(score, "ann", bar) for bar in range(3)], [None, "horn", "horn"])

    def test_names_that_are_no_player_s(self):
        for name in ("cid", "flute", "", "Ann", "an", "ann ", "annann", "a\nb", "\u00e4", "x" * 5000):
            with self.assertRaises(NoPlayer):
                instrument_at(self.score, name, 0)

    def test_bars_that_are_none(self):
        for bar in (-1, -8, -9, 8, 9, 10 ** 5000, -(10 ** 5000)):
            for player in ("ann", "bob"):
                with self.assertRaises(NoBar):
                    instrument_at(self.score, player, bar)

    def test_both_at_once(self):
        for bar in (-1, 8):
            with self.assertRaises(NoPlayer):
                instrument_at(self.score, "cid", bar)
        with self.assertRaises(NoPlayer):
            instrument_at(read_score(""), "ann", 0)
        with self.assertRaises(NoBar):
            instrument_at(read_score("player ann"), "ann", 0)


class Late(unittest.TestCase):
    def late(self, told, *rows):
        self.assertEqual(late_changes(read_rows(*rows), "ann"), told)

    def test_no_time_between(self):
        self.late([(1, (0, 1))], bars(2), "holds ann 0 flute", "holds ann 1 horn", "notes 0 ann 0:0:1", "notes 1 ann 0:0:1")

    def test_just_time_enough(self):
        rows = (bars(2), "holds ann 0 flute", "holds ann 1 horn", "notes 1 ann r:1/4 0:0:3/4")
        self.late([], *rows, "notes 0 ann 0:0:3/4 r:1/4")
        self.late([], *rows, "notes 0 ann 0:0:2/3 r:1/3")
        self.late([(1, (4, 9))], *rows, "notes 0 ann 0:0:29/36 r:7/36")

    def test_the_time_of_the_instrument_that_begins(self):
        notes = ("notes 0 ann 0:0:5/8 r:3/8", "notes 1 ann 0:0:1")
        self.late([(1, (3, 8))], bars(2), "holds ann 0 flute", "holds ann 1 horn", *notes)
        self.late([], bars(2), "holds ann 0 horn", "holds ann 1 flute", *notes)

    def test_no_time_asked_for(self):
        self.late([], bars(2), "holds ann 0 flute", "holds ann 1 drum", "notes 0 ann 0:0:1", "notes 1 ann 0:0:1")

    def test_empty_bars_between(self):
        self.late([(3, (2, 1))], bars(4), "holds ann 0 flute", "holds ann 2 harp", "notes 0 ann 0:0:1", "notes 3 ann 0:0:1")
        self.late([(3, (9, 4))], bars(4), "holds ann 0 flute", "holds ann 2 harp", "notes 0 ann 0:0:3/4 r:1/4",
                  "notes 3 ann 0:0:1")

    def test_rests_among_the_items(self):
        self.late([(1, (3, 8))], bars(2), "holds ann 0 flute", "holds ann 1 horn",
                  "notes 0 ann r:1/4 0:0:1/4 r:1/8 0:0:1/8 r:1/8 r:1/8", "notes 1 ann r:1/16 r:1/16 0:0:1/8 r:3/4")

    def test_the_first_note_changes_nothing(self):
        self.late([], bars(2), "holds ann 0 harp", "notes 0 ann 0:0:1")
        self.late([], bars(2), "holds ann 0 flute", "holds ann 1 harp", "notes 1 ann 0:0:1")

    def test_from_no_instrument(self):
        self.late([(1, (0, 1))], bars(2), "holds ann 1 horn", "notes 0 ann 0:0:1", "notes 1 ann 0:0:1")
        self.late([], bars(2), "holds ann 1 horn", "notes 0 ann 0:0:1/2 r:1/2", "notes 1 ann 0:0:1")

    def test_to_no_instrument(self):
        self.late([(1, (0, 1)), (3, (0, 1))], bars(2), "holds ann 1 horn", "notes 0 ann 0:0:1", "notes 1 ann 0:0:1",
                  "repeat 0 1 2")

    def test_a_hold_of_the_same_instrument(self):
        self.late([], bars(2), "holds ann 0 harp", "holds ann 1 harp", "notes 0 ann 0:0:1", "notes 1 ann 0:0:1")

    def test_an_instrument_held_without_a_note(self):
        self.late([], bars(3), "holds ann 0 harp", "holds ann 1 flute", "holds ann 2 harp", "notes 0 ann 0:0:1",
                  "notes 2 ann 0:0:1")

    def test_notes_behind_the_change_are_not_late(self):
        self.late([(1, (0, 1))], bars(3), "holds ann 0 flute", "holds ann 1 horn", "notes 0 ann 0:0:1/2 0:0:1/2",
                  "notes 1 ann 0:0:1/2 r:1/4 0:0:1/4", "notes 2 ann 0:0:1")

    def test_several(self):
        self.late([(1, (0, 1)), (2, (1, 8)), (4, (2, 1))], bars(6), "holds ann 0 flute", "holds ann 1 horn", "holds ann 2 flute",
                  "holds ann 3 harp", "holds ann 5 drum", "notes 0 ann 0:0:1", "notes 1 ann 0:0:7/8 r:1/8",
                  "notes 2 ann 0:0:1/8 r:7/8", "notes 4 ann r:1/8 0:0:7/8", "notes 5 ann 0:0:1")

    def test_across_a_repeat(self):
        rows = (bars(3), "holds ann 0 flute", "holds ann 1 horn", "notes 0 ann 0:0:1", "notes 1 ann r:1/2 0:0:3/8 r:1/8")
        self.late([], *rows)
        self.late([(2, (1, 8))], *rows, "repeat 0 1 2")
        self.late([(2, (1, 8)), (4, (1, 8))], *rows, "repeat 0 1 3")
        self.late([], *rows, "repeat 0 2 2")

    def test_across_ends(self):
        self.late([(3, (0, 1))], bars(3), "holds ann 0 flute", "holds ann 2 horn", "notes 0 ann 0:0:1", "notes 1 ann 0:0:1",
                  "notes 2 ann 0:0:1", "repeat 0 2 2 1:1 2:2")

    def test_across_a_jump(self):
        rows = (bars(4), "holds ann 0 flute", "holds ann 3 horn", "notes 0 ann 0:0:1", "notes 3 ann 0:0:1")
        self.late([], *rows)
        self.late([(4, (0, 1))], *rows, "jump 3 0 3 end")
        self.late([(3, (0, 1))], *rows, "jump 1 0 0 3")

    def test_with_an_upbeat(self):
        self.late([(1, (1, 16))], bars(2), "upbeat 1/8", "holds ann 0 flute", "holds ann 1 horn", "notes 0 ann 0:0:1/16 r:1/16",
                  "notes 1 ann 0:0:1")

    def test_each_player_by_itself(self):
        score = read_rows(bars(3), "holds ann 0 flute", "holds ann 2 horn", "holds bob 0 flute", "holds bob 1 horn",
                          "notes 0 ann 0:0:1", "notes 0 bob 0:0:1", "notes 1 bob 0:0:1", "notes 2 ann 0:0:1")
        self.assertEqual(late_changes(score, "ann"), [])
        self.assertEqual(late_changes(score, "bob"), [(1, (0, 1))])

    def test_without_notes_holds_or_bars(self):
        self.late([])
        self.late([], bars(2), "holds ann 0 flute", "holds ann 1 harp")
        self.late([], bars(2), "notes 0 ann 0:0:1", "notes 1 ann 0:0:1")

    def test_names_that_are_no_player_s(self):
        for name in ("cid", "flute", "", "Ann", "ann ", "x" * 5000):
            with self.assertRaises(NoPlayer):
                late_changes(read_rows(bars(1)), name)
        with self.assertRaises(NoPlayer):
            late_changes(read_score(""), "ann")

    def test_kinds_and_a_list_of_the_asker_s_own(self):
        score = read_rows(bars(2), "holds ann 0 flute", "holds ann 1 horn", "notes 0 ann 0:0:1", "notes 1 ann 0:0:1")
        ahead = copy.deepcopy(vars(score))
        told = late_changes(score, "ann")
        self.assertEqual([type(told), type(told[0]), type(told[0][0]), type(told[0][1])], [list, tuple, int, tuple])
        told.append("changed")
        self.assertEqual(late_changes(score, "ann"), [(1, (0, 1))])
        self.assertEqual(vars(score), ahead)
        self.assertIsNot(late_changes(score, "bob"), late_changes(score, "bob"))


if __name__ == "__main__":
    unittest.main()
