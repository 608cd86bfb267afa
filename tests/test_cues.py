"""Entries behind quiet bars, and their cues: points 13 and 1."""

import copy
import itertools
import unittest

from partsmith.cues import entries
from partsmith.errors import NoPlayer
from partsmith.scores import read_score

PLAYERS = ("ann", "bob", "cid")


def drawn(**lines):
    """A score of one row of signs for each player, in order: x for a bar with notes, . for an empty one."""
    rows = ["player " + player for player in lines]
    rows.extend(["bar 4/4 0"] * max(len(line) for line in lines.values()))
    for player, line in lines.items():
        rows.extend("notes %d %s 0:0:1" % (bar, player) for bar, sign in enumerate(line) if sign == "x")
    return read_score("\n".join(rows))


def asked_bar_by_bar(lines, player, quiet):
    """The same by the words of point 13, bar by bar."""
    told = []
    for bar, sign in enumerate(lines[player]):
        ahead = range(bar - quiet, bar)
        if sign != "x" or not all(there >= 0 and lines[player][there] == "." for there in ahead):
            continue
        cue = None
        there = bar - 1
        while there >= 0 and lines[player][there] == "." and cue is None:
            playing = [other for other in lines if other != player and lines[other][there] == "x"]
            cue = (there, playing[0]) if playing else None
            there -= 1
        told.append((bar, cue))
    return told


class Quiet(unittest.TestCase):
    def told(self, line, quiet, bars):
        self.assertEqual(entries(drawn(ann=line), "ann", quiet), [(bar, None) for bar in bars])

    def test_one(self):
        self.told("x.xx..x.", 1, [2, 6])
        self.told(".x", 1, [1])

    def test_as_many_as_there_are(self):
        self.told("x.xx..x", 2, [6])
        self.told("...x", 3, [3])
        self.told("x" + "." * 7 + "x", 7, [8])

    def test_more_than_there_are(self):
        self.told("x.xx..x", 3, [])
        self.told("x.xx..x", 7, [])
        self.told("x.xx..x", 200, [])
        self.told("x.xx..x", 10 ** 5000, [])

    def test_fewer_than_there_are(self):
        self.told("x....x", 1, [5])
        self.told("x....x", 3, [5])

    def test_the_score_s_beginning_is_no_quiet_bar(self):
        self.told("x", 1, [])
        self.told("x...", 1, [])
        self.told("xx.x", 1, [3])
        self.told(".x", 2, [])
        self.told("..x", 2, [2])
        self.told("..x", 3, [])

    def test_an_empty_bar_is_none(self):
        self.told("....", 1, [])
        self.told("x...", 2, [])

    def test_several(self):
        self.told("..x..x...x.x", 2, [2, 5, 9])
        self.told("..x..x...x.x", 1, [2, 5, 9, 11])

    def test_bar_199(self):
        self.told("x" + "." * 198 + "x", 198, [199])
        self.told("x" + "." * 198 + "x", 199, [])
        self.told("." * 199 + "x", 199, [199])

    def test_rests_among_items_are_no_empty_bar(self):
        score = read_score("player ann\nbar 4/4 0\nbar 4/4 0\nbar 4/4 0\nnotes 1 ann r:31/32 0:0:1/32\nnotes 2 ann 0:0:1")
        self.assertEqual(entries(score, "ann", 1), [(1, None)])

    def test_by_the_bars_not_as_played(self):
        score = read_score("player ann\nbar 4/4 0\nbar 4/4 0\nbar 4/4 0\nnotes 0 ann 0:0:1\nrepeat 0 2 2\njump 2 0 2 end")
        self.assertEqual(entries(score, "ann", 1), [])

    def test_without_bars_or_notes(self):
        self.assertEqual(entries(read_score("player ann"), "ann", 1), [])
        self.assertEqual(entries(read_score("player ann\nbar 4/4 0\nbar 4/4 0"), "ann", 1), [])


class Cues(unittest.TestCase):
    def told(self, cues, quiet, **lines):
        self.assertEqual(entries(drawn(**lines), "ann", quiet), cues)

    def test_in_the_last_bar(self):
        self.told([(3, (2, "bob"))], 2, ann="x..x", bob="xxxx")

    def test_in_an_earlier_bar(self):
        self.told([(4, (2, "bob"))], 3, ann="x...x", bob="xxx.x")
        self.told([(4, (1, "bob"))], 3, ann="x...x", bob="xx..x")

    def test_ahead_of_the_quiet_ones(self):
        self.told([(5, (1, "bob"))], 1, ann="x....x", bob=".x....")
        self.told([(5, (0, "bob"))], 2, ann=".....x", bob="x.....")

    def test_no_further_than_the_player_s_last_note(self):
        self.told([(3, None)], 2, ann="x..x", bob="x..x")
        self.told([(5, None)], 2, ann=".x...x", bob="xx...x")
        self.told([(2, (1, "bob")), (5, (3, "bob"))], 1, ann="x.x..x", bob="xxxx..")

    def test_none_where_nobody_plays(self):
        self.told([(3, None)], 2, ann="x..x", bob="....", cid="x...")
        self.told([(2, None)], 1, ann="..x")

    def test_not_of_the_entry_s_own_bar(self):
        self.told([(2, None)], 1, ann="..x", bob="..x")

    def test_the_first_of_several(self):
        self.told([(2, (1, "bob"))], 1, ann="x.x", bob=".x.", cid=".x.")
        self.told([(2, (1, "cid"))], 1, ann="x.x", cid=".x.", bob=".x.")
        self.told([(2, (1, "bob"))], 1, bob=".x.", ann="x.x", cid=".x.")
        self.told([(2, (1, "bob"))], 1, bob=".x.", cid=".x.", ann="x.x")

    def test_the_own_player_ahead_of_the_others(self):
        self.told([(2, (1, "cid"))], 1, ann="x.x", bob="x.x", cid=".x.", dan=".x.")

    def test_the_last_bar_ahead_of_the_first_player(self):
        self.told([(4, (3, "cid"))], 2, ann="x...x", bob=".xx..", cid=".xxx.")

    def test_in_the_order_of_players_not_of_notes(self):
        score = read_score("player bob\nplayer ann\nplayer cid\nbar 4/4 0\nbar 4/4 0\nnotes 1 ann 0:0:1\nnotes 0 cid 0:0:1\n"
                           "notes 0 bob 0:0:1")
        self.assertEqual(entries(score, "ann", 1), [(1, (0, "bob"))])

    def test_quiet_moves_no_cue(self):
        for quiet in (1, 2, 3, 4):
            self.told([(4, (1, "bob"))], quiet, ann="....x", bob="xx..x")
        self.told([], 5, ann="....x", bob="xx..x")

    def test_all_patterns_of_three_players(self):
        for signs in itertools.product(".x", repeat=12):
            lines = {player: "".join(signs[4 * place:4 * place + 4]) for place, player in enumerate(PLAYERS)}
            score = drawn(**lines)
            for quiet, player in ((1, "ann"), (2, "bob"), (3, "cid"), (1, "cid")):
                self.assertEqual(entries(score, player, quiet), asked_bar_by_bar(lines, player, quiet), (lines, player))


class Refusals(unittest.TestCase):
    def test_names_that_are_no_player_s(self):
        score = drawn(ann="x.x", bob=".x.")
        for name in ("cid", "", "Ann", "ann ", "an", "a\nb", "\u00e4", "x" * 5000):
            with self.assertRaises(NoPlayer):
                entries(score, name, 1)
        with self.assertRaises(NoPlayer):
            entries(read_score(""), "ann", 1)


class TheAskersOwn(unittest.TestCase):
    def test_kinds(self):
        told = entries(drawn(ann="x.x.x", bob=".x..."), "ann", 1)
        self.assertEqual(told, [(2, (1, "bob")), (4, None)])
        self.assertEqual([type(told), type(told[0]), type(told[0][1])], [list, tuple, tuple])

    def test_nothing_is_changed(self):
        score = drawn(ann="x..x", bob="xx..")
        ahead = copy.deepcopy(vars(score))
        told = entries(score, "ann", 1)
        told.append("changed")
        self.assertEqual(vars(score), ahead)
        self.assertEqual(entries(score, "ann", 1), [(3, (1, "bob"))])
        self.assertIsNot(entries(score, "bob", 5), entries(score, "bob", 5))


if __name__ == "__main__":
    unittest.main()
