"""A score written, and read again: points 9 and 1."""

import copy
import unittest

from partsmith.scores import read_score
from partsmith.scoretext import score_text

FIELDS = ("players", "instruments", "staffs", "bars", "upbeat", "holds", "notes", "repeats", "jump")
HEAD = "player ann\nplayer bob\ninstrument flute 0 0 0\nbar 4/4 0\nbar 3/4 0\nbar 4/4 0\nbar 4/4 0"
MIXED = """
  player   ann
player bob

instrument clarinet 2 2 6/16
bar 2/4 0   start
staff low bob
instrument flute -12 -48 0
staff high ann
bar 6/8 -3
upbeat 2/8
player cid
bar 2/2 7 slow da
bar 4/4 0
holds bob 1 flute
notes 2 ann 0:0:2/4 r:1/2
holds ann 0 clarinet
notes 0 cid -3:3:1/8 r:1/16 1:7:1/16
holds bob 3 clarinet
notes 1 ann 0:12:6/8
notes 0 ann -99:99:1/4
repeat 0 1 3 0:1,3 1:2
bar 1/32 0
repeat 2 2 2
jump 3 2 2 4

bar 32/1 -7 late
"""
WRITTEN = """player ann
player bob
player cid
instrument clarinet 2 2 3/8
instrument flute -12 -48 0
staff low bob
staff high ann
bar 2/4 0 start
bar 6/8 -3
bar 2/2 7 slow da
bar 4/4 0
bar 1/32 0
bar 32/1 -7 late
upbeat 1/4
holds bob 1 flute
holds bob 3 clarinet
holds ann 0 clarinet
notes 2 ann 0:0:1/2 r:1/2
notes 0 cid -3:3:1/8 r:1/16 1:7:1/16
notes 1 ann 0:12:3/4
notes 0 ann -99:99:1/4
repeat 0 1 3 0:1,3 1:2
repeat 2 2 2
jump 3 2 2 4"""


def fields(score):
    """The fields, dicts as lists of their pairs, so that the order counts."""
    values = [getattr(score, name) for name in FIELDS]
    return [list(value.items()) if isinstance(value, dict) else value for value in values]


class Written(unittest.TestCase):
    def same(self, rows):
        """The rows behind the head are written as they stand."""
        text = HEAD + "\n" + rows if rows else HEAD
        self.assertEqual(score_text(read_score(text)), text)

    def test_rows_in_the_order_of_the_fields(self):
        self.assertEqual(score_text(read_score(MIXED)), WRITTEN)

    def test_a_score_that_tells_nothing(self):
        self.assertEqual(score_text(read_score("")), "")
        self.assertEqual(score_text(read_score("\n  \n")), "")

    def test_one_row(self):
        for text in ("player ann", "instrument x 1 -5 1/4", "bar 4/4 0", "bar 4/4 -1 a b"):
            self.assertEqual(score_text(read_score(" " + text + "  \n\n")), text)

    def test_each_form(self):
        self.same("")
        self.same("upbeat 9998/9999")
        self.same("holds ann 0 flute\nholds ann 3 flute\nholds bob 0 flute")
        self.same("notes 0 bob r:1/3 0:0:2/3\nnotes 0 ann 0:0:1")
        self.same("repeat 0 2 9 0:1 1:2,3,4,5,6,7,8 2:9\nrepeat 3 3 2")
        self.same("jump 2 0 1 3")
        self.same("jump 3 0 3 end")
        self.same("jump 0 0 0 1")

    def test_kind(self):
        self.assertIs(type(score_text(read_score(""))), str)

    def test_nothing_is_changed(self):
        score = read_score(MIXED)
        ahead = copy.deepcopy(fields(score))
        score_text(score)
        self.assertEqual(fields(score), ahead)

    def test_a_score_that_was_changed(self):
        score = read_score(HEAD)
        score.players.append("cid")
        score.notes[(1, "cid")] = [((0, 0), (3, 4))]
        score.jump = (1, 0, 1, None)
        rows = score_text(score).split("\n")
        self.assertEqual(rows[2:3] + rows[-2:], ["player cid", "notes 1 cid 0:0:3/4", "jump 1 0 1 end"])


class ReadAgain(unittest.TestCase):
    def test_same_fields_in_the_same_order(self):
        for text in (MIXED, WRITTEN, HEAD, "", HEAD + "\njump 3 0 3 end", HEAD + "\nrepeat 1 3 2 1:2 2:1"):
            score = read_score(text)
            again = read_score(score_text(score))
            self.assertEqual(fields(again), fields(score))
            self.assertEqual(score_text(again), score_text(score))

    def test_rows_told_late(self):
        text = ("bar 4/4 0\nrepeat 0 0 2\njump 0 0 0 end\nplayer z\nnotes 0 z 0:0:1\nbar 2/4 0\nnotes 1 z 0:0:1/2\nplayer a\n"
                "instrument x 0 0 1\nholds z 0 x\nholds a 1 x\nholds z 1 x\nstaff s a z")
        score = read_score(text)
        self.assertEqual(fields(read_score(score_text(score))), fields(score))


if __name__ == "__main__":
    unittest.main()
