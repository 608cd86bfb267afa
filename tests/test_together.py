"""Frames, parts put together again, and parts played through: points 15, 16 and 1."""

import copy
import itertools
import unittest

from partsmith.errors import NoPlayer
from partsmith.parts import part_of
from partsmith.playing import played
from partsmith.scores import Score, read_score
from partsmith.scoretext import score_text
from partsmith.together import frame_of, played_part, put_together

FIELDS = ("players", "instruments", "staffs", "bars", "upbeat", "holds", "notes", "repeats", "jump")
NAMES = ("ann", "bob", "cid", "dan")
HEAD = ["player ann", "player bob", "instrument clarinet 2 2 1/2", "instrument sax -3 3 1/2"]
FRAME = """player ann
player bob
player cid
player dan
instrument clarinet 2 2 1/2
instrument sax -3 3 1/2
staff high ann bob
staff low dan
bar 4/4 0 start
bar 4/4 0
bar 4/4 6
bar 4/4 6 solo
bar 3/4 -6
bar 3/4 -6
bar 3/4 -6
bar 3/4 -6
bar 3/4 0
upbeat 1/4
holds ann 0 clarinet
holds ann 4 sax
holds bob 5 sax"""
SIGNS = "repeat 1 2 2\nrepeat 4 6 3 5:1,3 6:2\njump 6 1 3 8"
# Neither in the order of bars nor in that of players.
NOTES = """notes 6 cid -6:6:1/4 r:1/2
notes 0 bob 0:0:1/4
notes 2 ann 6:6:1/2 r:1/2
notes 3 bob r:1/2 7:1:1/4 6:6:1/4
notes 0 ann -99:99:1/8 r:1/8
notes 5 bob -5:1:1/2 r:1/4
notes 5 ann 0:0:3/4
notes 8 cid 0:12:3/4
notes 8 ann r:1/4 1:7:1/2"""
ORDER = [(0, "ann"), (0, "bob"), (2, "ann"), (3, "bob"), (5, "ann"), (5, "bob"), (6, "cid"), (8, "ann"), (8, "cid")]
FULL = "\n".join([FRAME, NOTES, SIGNS])


def read_rows(*rows):
    return read_score("\n".join(HEAD + list(rows)))


def fields(score):
    return {name: getattr(score, name) for name in FIELDS}


def all_parts(score, quiet=1):
    return {player: part_of(score, player, quiet) for player in score.players}


def changeable(value):
    """All lists and dicts in a value."""
    found = [value] if isinstance(value, (list, dict)) else []
    if isinstance(value, dict):
        value = list(value.values())
    if isinstance(value, (list, tuple)):
        for inner in value:
            found.extend(changeable(inner))
    return found


def spoiled(value):
    """Changes all lists and dicts in a value."""
    for inner in changeable(value):
        if isinstance(inner, dict):
            inner["changed"] = "changed"
        else:
            inner.append("changed")


class Frames(unittest.TestCase):
    def test_all_fields_but_notes(self):
        score = read_score(FULL)
        frame = frame_of(score)
        self.assertIsInstance(frame, Score)
        expected = dict(fields(score), notes={})
        self.assertEqual(fields(frame), expected)
        for name in ("instruments", "staffs", "holds"):
            self.assertEqual(list(getattr(frame, name)), list(getattr(score, name)))
        self.assertEqual(score_text(frame), score_text(read_score(FRAME + "\n" + SIGNS)))
        self.assertNotEqual(score.notes, {})

    def test_of_a_frame(self):
        score = read_score(FULL)
        self.assertEqual(fields(frame_of(frame_of(score))), fields(frame_of(score)))

    def test_of_a_score_that_tells_nothing(self):
        self.assertEqual(fields(frame_of(read_score(""))), fields(read_score("")))

    def test_kinds(self):
        frame = frame_of(read_score(FULL))
        self.assertEqual([type(getattr(frame, name)) for name in FIELDS],
                         [list, dict, dict, list, tuple, dict, dict, list, tuple])
        self.assertIs(type(frame.holds["ann"]), list)
        self.assertIs(type(frame.staffs["high"]), tuple)

    def test_the_asker_s_own(self):
        score = read_score(FULL)
        ahead = copy.deepcopy(fields(score))
        first = frame_of(score)
        second = frame_of(score)
        found = changeable(fields(score)) + changeable(fields(first)) + changeable(fields(second))
        self.assertEqual(len(set(map(id, found))), len(found))
        for name in FIELDS:
            spoiled(getattr(first, name))
        self.assertEqual(fields(score), ahead)
        self.assertEqual(fields(second), dict(ahead, notes={}))
        for name in FIELDS:
            spoiled(getattr(score, name))
        self.assertEqual(fields(second), dict(ahead, notes={}))


class Together(unittest.TestCase):
    def test_all_fields_again(self):
        score = read_score(FULL)
        again = put_together(frame_of(score), all_parts(score))
        self.assertIsInstance(again, Score)
        self.assertEqual(fields(again), fields(score))

    def test_notes_by_bars_then_by_players(self):
        score = read_score(FULL)
        self.assertNotEqual(list(score.notes), ORDER)
        parts = all_parts(score)
        self.assertEqual(list(put_together(frame_of(score), parts).notes), ORDER)
        turned = {player: parts[player] for player in reversed(NAMES)}
        self.assertEqual(list(put_together(frame_of(score), turned).notes), ORDER)

    def test_what_is_written_is_read_again(self):
        score = read_score(FULL)
        again = put_together(frame_of(score), all_parts(score))
        self.assertEqual(fields(read_score(score_text(again))), fields(score))

    def test_of_differing_quiets(self):
        score = read_score(FULL)
        for quiets in ((1, 2, 3, 1), (9, 1, 1, 2), (200, 200, 200, 200), (3, 2, 1, 1)):
            parts = {player: part_of(score, player, quiet) for player, quiet in zip(NAMES, quiets)}
            self.assertEqual(fields(put_together(frame_of(score), parts)), fields(score))

    def test_cues_are_left_out(self):
        score = read_rows("bar 4/4 0\nbar 4/4 0", "notes 0 bob 0:0:1", "notes 1 ann 0:0:1")
        parts = all_parts(score)
        self.assertEqual(parts["ann"][0][3][0], "bob")
        self.assertEqual(list(put_together(frame_of(score), parts).notes), [(0, "bob"), (1, "ann")])

    def test_parts_of_names_that_are_no_players(self):
        score = read_score(FULL)
        parts = all_parts(score)
        parts["eve"] = part_of(score, "ann", 1)
        parts["clarinet"] = []
        parts[""] = [("bar", 0, [((0, 0), (1, 4))], None)]
        again = put_together(frame_of(score), parts)
        self.assertEqual(fields(again), fields(score))
        self.assertEqual(list(again.notes), ORDER)

    def test_rests_gathered_otherwise(self):
        score = read_score(FULL)
        parts = all_parts(score)
        parts["ann"] = [row for row in parts["ann"] if row[0] == "bar" and row[2]]
        parts["bob"] = [("rest", 0, 9)] + [row for row in parts["bob"] if row[0] == "bar"] + [("rest", 8, 1)]
        parts["cid"] = [row for row in parts["cid"] if row[0] == "bar"]
        parts["dan"] = [("rest", bar, 1) for bar in range(9)]
        self.assertEqual(fields(put_together(frame_of(score), parts)), fields(score))
        parts["dan"] = []
        self.assertEqual(fields(put_together(frame_of(score), parts)), fields(score))
        parts["dan"] = [("bar", bar, [], None) for bar in range(9)]
        self.assertEqual(fields(put_together(frame_of(score), parts)), fields(score))

    def test_pitches_turned_back(self):
        for key, instrument, items in ((0, "clarinet", [((2, 2), (1, 1))]), (6, "clarinet", [((-10, 2), (1, 1))]),
                                       (0, "sax", [((-3, 3), (1, 1))]), (-5, "sax", [((9, 3), (1, 1))])):
            frame = read_rows("bar 4/4 %d" % key, "holds ann 0 " + instrument)
            parts = {"ann": [("bar", 0, items, None)], "bob": [("bar", 0, items, None)]}
            again = put_together(frame, parts)
            self.assertEqual(again.notes, {(0, "ann"): [((0, 0), (1, 1))], (0, "bob"): items})

    def test_with_each_bar_s_instrument_and_key(self):
        score = read_rows("bar 4/4 5\nbar 4/4 6\nbar 4/4 -6\nbar 4/4 -6", "holds ann 1 clarinet", "holds ann 3 sax",
                          *["notes %d ann 0:0:1/2 r:1/4 1:7:1/4" % bar for bar in range(4)])
        parts = all_parts(score)
        self.assertEqual(len(set(row[2][0][0] for row in parts["ann"])), 4)
        self.assertEqual(fields(put_together(frame_of(score), parts)), fields(score))

    def test_the_whole_score_as_a_frame(self):
        score = read_score(FULL)
        parts = {player: [] for player in NAMES}
        self.assertEqual(put_together(score, parts).notes, {})
        self.assertEqual(fields(put_together(score, all_parts(score))), fields(score))

    def test_without_players_or_bars(self):
        for text in ("", "player ann", "bar 4/4 0"):
            score = read_score(text)
            self.assertEqual(fields(put_together(frame_of(score), all_parts(score))), fields(score))
        self.assertEqual(fields(put_together(read_score(""), {"ann": []})), fields(read_score("")))

    def test_many_patterns(self):
        for signs in itertools.product(".x", repeat=8):
            rows = ["bar 4/4 %d" % key for key in (0, 6, -6, 7)] + ["holds ann 1 clarinet", "holds bob 2 sax"]
            for place, sign in enumerate(signs):
                if sign == "x":
                    rows.append("notes %d %s r:1/4 6:6:1/4 -7:-1:1/2" % (place % 4, NAMES[place // 4]))
            score = read_rows(*rows)
            for quiets in ((1, 2), (3, 1)):
                parts = {player: part_of(score, player, quiet) for player, quiet in zip(NAMES, quiets)}
                self.assertEqual(fields(put_together(frame_of(score), parts)), fields(score))

    def test_a_part_lacking(self):
        score = read_score(FULL)
        for player in NAMES:
            parts = all_parts(score)
            parts["eve"] = parts.pop(player)
            with self.assertRaises(NoPlayer):
                put_together(frame_of(score), parts)
        with self.assertRaises(NoPlayer):
            put_together(frame_of(score), {})
        with self.assertRaises(NoPlayer):
            put_together(read_score("player ann"), {"Ann": []})

    def test_the_asker_s_own(self):
        score = read_score(FULL)
        frame = frame_of(score)
        parts = all_parts(score)
        handed_in = copy.deepcopy((fields(frame), parts))
        again = put_together(frame, parts)
        self.assertEqual((fields(frame), parts), handed_in)
        found = changeable(fields(frame)) + changeable(parts) + changeable(fields(again))
        self.assertEqual(len(set(map(id, found))), len(found))
        for name in FIELDS:
            spoiled(getattr(again, name))
        self.assertEqual((fields(frame), parts), handed_in)
        again = put_together(frame, parts)
        spoiled(parts)
        for name in FIELDS:
            spoiled(getattr(frame, name))
        self.assertEqual(fields(again), fields(score))

    def test_one_part_for_two_players(self):
        frame = read_rows("bar 4/4 0")
        part = [("bar", 0, [((0, 0), (1, 1))], None)]
        again = put_together(frame, {"ann": part, "bob": part})
        self.assertIsNot(again.notes[(0, "ann")], again.notes[(0, "bob")])
        self.assertIsNot(again.notes[(0, "ann")], part[0][2])

    def test_handed_in_again(self):
        score = read_score(FULL)
        again = put_together(frame_of(score), all_parts(score))
        for player in NAMES:
            self.assertEqual(part_of(again, player, 1), part_of(score, player, 1))


class PlayedParts(unittest.TestCase):
    def test_with_repeats_ends_a_jump_and_an_upbeat(self):
        score = read_score(FULL)
        told = played_part(frame_of(score), "ann", part_of(score, "ann", 1))
        first = [((-97, 101), (1, 8)), (None, (1, 8))]
        third = [((-4, 8), (1, 2)), (None, (1, 2))]
        sixth = [((9, 3), (3, 4))]
        last = [(None, (1, 4)), ((-2, 10), (1, 2))]
        self.assertEqual(told, [
            (0, (0, 1), first), (1, (1, 4), []), (2, (5, 4), third), (1, (9, 4), []), (2, (13, 4), third), (3, (17, 4), []),
            (4, (21, 4), []), (5, (6, 1), sixth), (4, (27, 4), []), (6, (15, 2), []), (4, (33, 4), []), (5, (9, 1), sixth),
            (1, (39, 4), []), (2, (43, 4), third), (3, (47, 4), []), (8, (51, 4), last)])

    def test_the_bars_and_times_are_the_score_s(self):
        score = read_score(FULL)
        for player, quiet in itertools.product(NAMES, (1, 2, 9)):
            part = part_of(score, player, quiet)
            told = played_part(frame_of(score), player, part)
            self.assertEqual([triple[:2] for triple in told], [triple[:2] for triple in played(score)])
            items = {row[1]: row[2] for row in part if row[0] == "bar"}
            self.assertEqual([triple[2] for triple in told], [items.get(triple[0], []) for triple in told])

    def test_a_cue_counts_for_nothing(self):
        score = read_rows("bar 4/4 0\nbar 4/4 0", "notes 0 bob 0:0:1", "notes 1 ann 0:0:1")
        part = part_of(score, "ann", 1)
        self.assertEqual(part[0][3], ("bob", [((0, 0), (1, 1))]))
        self.assertEqual(played_part(frame_of(score), "ann", part), [(0, (0, 1), []), (1, (1, 1), [((0, 0), (1, 1))])])

    def test_rests_gathered_otherwise(self):
        score = read_score(FULL)
        frame = frame_of(score)
        part = part_of(score, "bob", 1)
        told = played_part(frame, "bob", part)
        bare = [row for row in part if row[0] == "bar" and row[2]]
        for other in (bare, [("rest", 0, 1)] + bare + [("rest", 8, 1)], bare + [("bar", 8, [], ("ann", [((0, 0), (3, 4))]))]):
            self.assertEqual(played_part(frame, "bob", other), told)

    def test_a_part_of_no_rows(self):
        score = read_rows("bar 4/4 0\nbar 3/4 0\nrepeat 0 1 2")
        self.assertEqual(played_part(score, "ann", []), [(0, (0, 1), []), (1, (1, 1), []), (0, (7, 4), []), (1, (11, 4), [])])
        self.assertEqual(played_part(read_score("player ann"), "ann", []), [])

    def test_written_not_sounding(self):
        score = read_rows("bar 4/4 6", "holds ann 0 clarinet", "notes 0 ann 6:6:1")
        self.assertEqual(played_part(frame_of(score), "ann", part_of(score, "ann", 1)), [(0, (0, 1), [((-4, 8), (1, 1))])])

    def test_names_that_are_no_player_s(self):
        frame = frame_of(read_score(FULL))
        for name in ("eve", "clarinet", "", "Ann", "ann ", "a\nb", "\u00e4", "x" * 5000):
            with self.assertRaises(NoPlayer):
                played_part(frame, name, [])
        with self.assertRaises(NoPlayer):
            played_part(read_score(""), "ann", [])

    def test_the_asker_s_own(self):
        score = read_score(FULL)
        frame = frame_of(score)
        part = part_of(score, "ann", 1)
        handed_in = copy.deepcopy((fields(frame), part))
        told = played_part(frame, "ann", part)
        kept = copy.deepcopy(told)
        self.assertEqual((fields(frame), part), handed_in)
        self.assertEqual([type(told), type(told[0]), type(told[0][2]), type(told[1][2])], [list, tuple, list, list])
        found = changeable(fields(frame)) + changeable(part) + changeable(told)
        self.assertEqual(len(set(map(id, found))), len(found))
        spoiled(told)
        self.assertEqual((fields(frame), part), handed_in)
        self.assertEqual(played_part(frame, "ann", part), kept)
        told = played_part(frame, "ann", part)
        spoiled(part)
        self.assertEqual(told, kept)


if __name__ == "__main__":
    unittest.main()
