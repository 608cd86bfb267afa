"""A player's part: points 14 and 1."""

import copy
import itertools
import unittest

from partsmith.cues import entries
from partsmith.errors import NoPlayer
from partsmith.parts import breaks, part_of
from partsmith.pitches import sounding
from partsmith.scores import read_score

# ann's instruments respell under key 6 (clarinet) and under key -6 (sax), bob has none.
HEAD = ["player ann", "player bob", "instrument clarinet 2 2 1/2", "instrument sax -3 3 1/2", "instrument flute 0 0 0"]
TURNS = {"clarinet": (2, 2), "sax": (-3, 3), "flute": (0, 0), None: (0, 0)}
NOTE = [((0, 0), (1, 1))]
FULL = """player ann
player bob
player cid
instrument clarinet 2 2 1/2
instrument sax -3 3 1/2
bar 4/4 0 start
bar 4/4 0
bar 4/4 0
bar 4/4 6
bar 4/4 6 solo
bar 4/4 6
bar 3/4 -6
bar 3/4 -6
bar 3/4 -6
bar 3/4 -6
bar 3/4 -6
bar 3/4 -6
bar 3/4 -6
bar 3/4 -6
upbeat 1/4
holds ann 0 clarinet
holds bob 5 sax
notes 0 ann 0:0:1/4
notes 3 bob r:1/2 6:6:1/2
notes 4 cid 7:1:1
notes 5 ann 6:6:1/2 r:1/2
notes 6 bob -6:6:3/4
notes 9 cid -6:6:1/4 r:1/2
notes 9 ann -5:1:3/4
notes 13 bob r:1/4 -6:6:1/2
repeat 1 2 2
repeat 7 9 2 8:1 9:2
jump 11 10 10 12"""
PARTS = {
    "ann": [("bar", 0, [((2, 2), (1, 4))], None), ("rest", 1, 2), ("rest", 3, 1), ("bar", 4, [], ("cid", [((-3, 3), (1, 1))])),
            ("bar", 5, [((-4, 8), (1, 2)), (None, (1, 2))], None), ("bar", 6, [], ("bob", [((-4, 8), (3, 4))])),
            ("rest", 7, 1), ("rest", 8, 1), ("bar", 9, [((-3, 3), (3, 4))], None), ("rest", 10, 1), ("rest", 11, 1),
            ("rest", 12, 2)],
    "bob": [("bar", 0, [], ("ann", [((0, 0), (1, 4))])), ("rest", 1, 2), ("bar", 3, [(None, (1, 2)), ((6, 6), (1, 2))], None),
            ("rest", 4, 1), ("bar", 5, [], ("ann", [((3, 9), (1, 2)), (None, (1, 2))])), ("bar", 6, [((3, 9), (3, 4))], None),
            ("rest", 7, 1), ("rest", 8, 1), ("bar", 9, [], ("ann", [((4, 4), (3, 4))])), ("rest", 10, 1), ("rest", 11, 1),
            ("rest", 12, 1), ("bar", 13, [(None, (1, 4)), ((3, 9), (1, 2))], None)],
    "cid": [("rest", 0, 1), ("rest", 1, 2), ("bar", 3, [], ("bob", [(None, (1, 2)), ((6, 6), (1, 2))])),
            ("bar", 4, [((7, 1), (1, 1))], None), ("rest", 5, 1), ("bar", 6, [], ("bob", [((-6, 6), (3, 4))])), ("rest", 7, 1),
            ("rest", 8, 1), ("bar", 9, [((-6, 6), (1, 4)), (None, (1, 2))], None), ("rest", 10, 1), ("rest", 11, 1),
            ("rest", 12, 2)],
}


def read_rows(*rows):
    return read_score("\n".join(HEAD + list(rows)))


def bars(count, key=0):
    return "\n".join(["bar 4/4 %d" % key] * count)


def changeable(value):
    """All lists and dicts in a value."""
    found = [value] if isinstance(value, (list, dict)) else []
    if isinstance(value, dict):
        value = list(value.values())
    if isinstance(value, (list, tuple)):
        for inner in value:
            found.extend(changeable(inner))
    return found


class Rows(unittest.TestCase):
    def told(self, part, quiet, *rows):
        self.assertEqual(part_of(read_rows(*rows), "ann", quiet), part)

    def test_bars_with_notes(self):
        self.told([("bar", 0, [((0, 0), (1, 2)), (None, (1, 2))], None), ("bar", 1, [((1, 7), (1, 1))], None)], 1, bars(2),
                  "notes 0 ann 0:0:1/2 r:1/2", "notes 1 ann 1:7:1")

    def test_empty_bars(self):
        self.told([("rest", 0, 3)], 1, bars(3))
        self.told([("rest", 0, 200)], 1, bars(200))
        self.told([("rest", 0, 1), ("bar", 1, NOTE, None), ("rest", 2, 2), ("bar", 4, NOTE, None), ("rest", 5, 1)], 1, bars(6),
                  "notes 1 ann 0:0:1", "notes 4 ann 0:0:1")

    def test_a_cue(self):
        rows = (bars(4), "notes 3 ann 0:0:1", "notes 2 bob 1:7:1/2 r:1/2")
        cue = ("bar", 2, [], ("bob", [((1, 7), (1, 2)), (None, (1, 2))]))
        self.told([("rest", 0, 2), cue, ("bar", 3, NOTE, None)], 3, *rows)
        self.told([("rest", 0, 3), ("bar", 3, NOTE, None)], 4, *rows)

    def test_a_cue_amid_a_rest(self):
        rows = (bars(6), "notes 5 ann 0:0:1", "notes 2 bob 0:0:1")
        self.told([("rest", 0, 2), ("bar", 2, [], ("bob", NOTE)), ("rest", 3, 2), ("bar", 5, NOTE, None)], 1, *rows)

    def test_a_cue_at_the_beginning(self):
        self.told([("bar", 0, [], ("bob", NOTE)), ("rest", 1, 1), ("bar", 2, NOTE, None)], 1, bars(3), "notes 2 ann 0:0:1",
                  "notes 0 bob 0:0:1")

    def test_a_cue_straight_behind_a_bar(self):
        self.told([("bar", 0, NOTE, None), ("bar", 1, [], ("bob", NOTE)), ("bar", 2, NOTE, None)], 1, bars(3),
                  "notes 0 ann 0:0:1", "notes 1 bob 0:0:1", "notes 2 ann 0:0:1")

    def test_a_cue_with_a_break_behind_it(self):
        self.told([("bar", 0, [], ("bob", NOTE)), ("rest", 1, 1), ("rest", 2, 1), ("bar", 3, NOTE, None)], 1, bars(2),
                  "bar 4/4 0 solo", bars(1), "notes 0 bob 0:0:1", "notes 3 ann 0:0:1")

    def test_without_an_entry_no_cue(self):
        self.told([("rest", 0, 4)], 1, bars(4), "notes 2 bob 0:0:1")
        self.told([("bar", 0, NOTE, None), ("rest", 1, 3)], 1, bars(4), "notes 0 ann 0:0:1", "notes 2 bob 0:0:1")

    def test_without_bars(self):
        self.assertEqual(part_of(read_rows(), "ann", 1), [])
        self.assertEqual(part_of(read_score("player x"), "x", 9), [])

    def test_all_of_it(self):
        score = read_score(FULL)
        for player, part in PARTS.items():
            self.assertEqual(part_of(score, player, 1), part)

    def test_all_of_it_with_more_quiet(self):
        score = read_score(FULL)
        fewer = list(PARTS["ann"])
        fewer[5] = ("rest", 6, 1)
        self.assertEqual(part_of(score, "ann", 4), fewer)
        fewer[3] = ("rest", 4, 1)
        self.assertEqual(part_of(score, "ann", 5), fewer)
        self.assertEqual(part_of(score, "cid", 5)[2], ("rest", 3, 1))


class Written(unittest.TestCase):
    def items(self, key, instrument, *items):
        rows = [bars(2, key), "notes 0 bob " + " ".join(items), "notes 1 ann " + " ".join(items)]
        if instrument is not None:
            rows.insert(1, "holds ann 0 " + instrument)
        part = part_of(read_rows(*rows), "ann", 1)
        self.assertEqual([row[:2] for row in part], [("bar", 0), ("bar", 1)])
        cue = part[0][3]
        self.assertEqual((part[0][2], cue[0], part[1][3]), ([], "bob", None))
        # The cue is written like the part's own notes.
        self.assertEqual(cue[1], part[1][2])
        return part[1][2]

    def test_without_an_instrument(self):
        self.assertEqual(self.items(0, None, "0:0:1/2", "r:1/2"), [((0, 0), (1, 2)), (None, (1, 2))])
        self.assertEqual(self.items(7, None, "7:1:1"), [((7, 1), (1, 1))])

    def test_with_an_instrument_that_turns_nothing(self):
        self.assertEqual(self.items(-7, "flute", "-7:-1:1"), [((-7, -1), (1, 1))])

    def test_turned(self):
        self.assertEqual(self.items(0, "clarinet", "0:0:1/2", "r:1/2"), [((2, 2), (1, 2)), (None, (1, 2))])
        self.assertEqual(self.items(5, "clarinet", "5:11:1"), [((7, 13), (1, 1))])
        self.assertEqual(self.items(-4, "sax", "-4:8:1"), [((-7, 11), (1, 1))])

    def test_respelled_below(self):
        self.assertEqual(self.items(6, "clarinet", "6:6:1/4", "0:0:3/4"), [((-4, 8), (1, 4)), ((-10, 2), (3, 4))])

    def test_respelled_above(self):
        self.assertEqual(self.items(-5, "sax", "-5:1:1/4", "0:0:3/4"), [((4, 4), (1, 4)), ((9, 3), (3, 4))])

    def test_beyond_a_score_s_pitches(self):
        self.assertEqual(self.items(0, "sax", "-99:99:1"), [((-102, 102), (1, 1))])

    def test_under_each_bar_s_own_key(self):
        score = read_rows(bars(1, 5), bars(1, 6), "holds ann 0 clarinet", "notes 0 ann 0:0:1", "notes 1 ann 0:0:1")
        self.assertEqual([row[2] for row in part_of(score, "ann", 1)], [[((2, 2), (1, 1))], [((-10, 2), (1, 1))]])

    def test_with_the_instrument_at_each_bar(self):
        rows = [bars(4), "holds ann 1 clarinet", "holds ann 3 sax"] + ["notes %d ann 0:0:1" % bar for bar in range(4)]
        pitches = [row[2][0][0] for row in part_of(read_rows(*rows), "ann", 1)]
        self.assertEqual(pitches, [(0, 0), (2, 2), (2, 2), (-3, 3)])

    def test_a_cue_with_the_instrument_at_its_own_bar(self):
        score = read_rows(bars(3), "holds ann 0 clarinet", "holds ann 1 sax", "holds bob 0 sax", "notes 0 bob 0:0:1",
                          "notes 2 ann 0:0:1")
        self.assertEqual(part_of(score, "ann", 1), [("bar", 0, [], ("bob", [((2, 2), (1, 1))])), ("rest", 1, 1),
                                                   ("bar", 2, [((-3, 3), (1, 1))], None)])

    def test_the_cued_player_s_instrument_counts_for_nothing(self):
        score = read_rows(bars(2), "holds bob 0 clarinet", "notes 0 bob 0:0:1", "notes 1 ann 0:0:1")
        self.assertEqual(part_of(score, "ann", 1)[0], ("bar", 0, [], ("bob", NOTE)))


class ManyScores(unittest.TestCase):
    """Parts of many scores, held against point 14's words: what stands where, and how long rests are."""

    TOLD = ("bar 4/4 0", "bar 4/4 6", "bar 2/2 6 solo")
    SIGNS = ((), ("repeat 1 2 2",), ("repeat 0 1 2 1:1,2", "jump 3 2 2 4"), ("holds ann 2 sax", "holds bob 3 sax"))

    def held(self, score, player, quiet):
        part = part_of(score, player, quiet)
        cues = {cue[0]: cue[1] for bar, cue in entries(score, player, quiet) if cue is not None}
        broken = breaks(score, player)
        there = 0
        for place, row in enumerate(part):
            self.assertEqual(row[1], there)
            if row[0] == "rest":
                self.assertEqual(len(row), 3)
                covered = range(there, there + row[2])
                self.assertGreater(row[2], 0)
                self.assertFalse([bar for bar in covered if (bar, player) in score.notes or bar in cues])
                self.assertFalse([bar for bar in covered[1:] if bar in broken])
                if place > 0 and part[place - 1][0] == "rest":
                    self.assertIn(there, broken)
                there += row[2]
            else:
                self.assertEqual((row[0], len(row)), ("bar", 4))
                self.bar_held(score, player, row, cues)
                there += 1
        self.assertEqual(there, len(score.bars))

    def bar_held(self, score, player, row, cues):
        bar = row[1]
        key = score.bars[bar][1]
        held = [name for start, name in score.holds.get(player, []) if start <= bar]
        turn = TURNS[held[-1] if held else None]
        source = player if row[3] is None else row[3][0]
        shown = row[2] if row[3] is None else row[3][1]
        back = [(None if pitch is None else sounding(pitch, key, turn), length) for pitch, length in shown]
        self.assertEqual(back, score.notes[(bar, source)])
        if row[3] is not None:
            self.assertEqual((row[2], cues[bar]), ([], source))
            self.assertNotIn((bar, player), score.notes)

    def test_many(self):
        patterns = ["".join(signs) for signs in itertools.product(".x", repeat=6)]
        for number, line in enumerate(patterns):
            other = patterns[(number * 37 + 11) % len(patterns)]
            rows = [self.TOLD[(number // (bar + 1)) % 3] for bar in range(6)] + ["holds ann 0 clarinet"]
            for bar in range(6):
                rows.extend(["notes %d ann r:1/4 %d:0:3/4" % (bar, 12 * bar)] if line[bar] == "x" else [])
                rows.extend(["notes %d bob -5:1:7/8 r:1/8" % bar] if other[bar] == "x" else [])
            score = read_rows(*rows, *self.SIGNS[number % 4])
            for player, quiet in itertools.product(("ann", "bob"), (1, 2, 3, 7)):
                self.held(score, player, quiet)


class Refusals(unittest.TestCase):
    def test_names_that_are_no_player_s(self):
        for name in ("cid", "flute", "", "Ann", "ann ", "a\nb", "\u00e4", "x" * 5000):
            with self.assertRaises(NoPlayer):
                part_of(read_rows(bars(2)), name, 1)
        with self.assertRaises(NoPlayer):
            part_of(read_score(""), "ann", 1)


class TheAskersOwn(unittest.TestCase):
    def test_kinds(self):
        part = part_of(read_score(FULL), "bob", 1)
        self.assertIs(type(part), list)
        for row in part:
            self.assertIs(type(row), tuple)
            if row[0] == "bar":
                self.assertIs(type(row[2]), list)
            if row[0] == "bar" and row[3] is not None:
                self.assertEqual([type(row[3]), type(row[3][1])], [tuple, list])

    def test_no_two_are_one(self):
        score = read_score(FULL)
        found = changeable(vars(score))
        for player in ("ann", "bob", "cid", "ann"):
            found.extend(changeable(part_of(score, player, 1)))
        self.assertEqual(len(set(map(id, found))), len(found))

    def test_nothing_is_changed(self):
        score = read_score(FULL)
        ahead = copy.deepcopy(vars(score))
        for player in PARTS:
            part = part_of(score, player, 1)
            self.assertEqual(vars(score), ahead)
            for inner in changeable(part):
                inner.append("changed")
            self.assertEqual(vars(score), ahead)
        for player in PARTS:
            self.assertEqual(part_of(score, player, 1), PARTS[player])

    def test_a_score_changed_later_changes_no_part(self):
        score = read_score(FULL)
        part = part_of(score, "ann", 1)
        for items in score.notes.values():
            items.clear()
        self.assertEqual(part, PARTS["ann"])


if __name__ == "__main__":
    unittest.main()
