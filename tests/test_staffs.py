"""Staffs that several players share: points 18 and 1."""

import copy
import itertools
import unittest

from partsmith.errors import NoBar, NoStaff
from partsmith.scores import read_score
from partsmith.staffs import staff_bar, unstaffed

NOTE = [((0, 0), (1, 1))]
HALVES = [((0, 0), (1, 2)), ((0, 0), (1, 2))]
RESTED = [(None, (1, 2)), ((1, 7), (1, 2))]
HEAD = ["player ann", "player bob", "player cid", "player dan", "player eve", "instrument horn 1 -5 0",
        "staff high cid ann bob", "staff low eve", "staff mid dan", "bar 4/4 0", "bar 4/4 0"]


def read_rows(*rows):
    return read_score("\n".join(HEAD + list(rows)))


def changeable(value):
    """All lists and dicts in a value."""
    found = [value] if isinstance(value, (list, dict)) else []
    if isinstance(value, dict):
        value = list(value.values())
    if isinstance(value, (list, tuple)):
        for inner in value:
            found.extend(changeable(inner))
    return found


class StaffBars(unittest.TestCase):
    def told(self, pairs, staff, *rows):
        self.assertEqual(staff_bar(read_rows(*rows), staff, 1), pairs)

    def test_one_player(self):
        self.told([(("eve",), NOTE)], "low", "notes 1 eve 0:0:1", "notes 1 ann 1:7:1")
        self.told([(("eve",), [])], "low", "notes 0 eve 0:0:1")

    def test_all_alike(self):
        self.told([(("cid", "ann", "bob"), NOTE)], "high", "notes 1 ann 0:0:1", "notes 1 bob 0:0:1", "notes 1 cid 0:0:1")

    def test_all_empty(self):
        self.told([(("cid", "ann", "bob"), [])], "high", "notes 0 ann 0:0:1")

    def test_some_alike(self):
        self.told([(("cid", "bob"), NOTE), (("ann",), RESTED)], "high", "notes 1 ann r:1/2 1:7:1/2", "notes 1 bob 0:0:1",
                  "notes 1 cid 0:0:1")
        self.told([(("cid",), NOTE), (("ann", "bob"), RESTED)], "high", "notes 1 ann r:1/2 1:7:1/2",
                  "notes 1 bob r:1/2 1:7:1/2", "notes 1 cid 0:0:1")

    def test_none_alike(self):
        self.told([(("cid",), RESTED), (("ann",), NOTE), (("bob",), HALVES)], "high", "notes 1 ann 0:0:1",
                  "notes 1 bob 0:0:1/2 0:0:1/2", "notes 1 cid r:1/2 1:7:1/2")

    def test_some_empty(self):
        self.told([(("cid", "bob"), []), (("ann",), NOTE)], "high", "notes 1 ann 0:0:1")
        self.told([(("cid",), NOTE), (("ann", "bob"), [])], "high", "notes 1 cid 0:0:1")

    def test_in_the_staff_s_order_not_the_score_s(self):
        score = read_score("player ann\nplayer bob\nplayer cid\nstaff s cid bob ann\nbar 4/4 0\nnotes 0 ann 0:0:1\n"
                           "notes 0 bob 1:7:1\nnotes 0 cid 0:0:1")
        self.assertEqual(staff_bar(score, "s", 0), [(("cid", "ann"), NOTE), (("bob",), [((1, 7), (1, 1))])])

    def test_like_items_in_other_bars_or_staffs(self):
        self.told([(("dan",), NOTE)], "mid", "notes 1 dan 0:0:1", "notes 1 eve 0:0:1", "notes 1 ann 0:0:1", "notes 0 dan 1:7:1")

    def test_rests_parted_otherwise_are_not_alike(self):
        self.told([(("cid",), [(None, (1, 4)), (None, (1, 4)), ((1, 7), (1, 2))]), (("ann",), RESTED), (("bob",), [])], "high",
                  "notes 1 cid r:1/4 r:1/4 1:7:1/2", "notes 1 ann r:1/2 1:7:1/2")

    def test_items_as_the_score_has_them(self):
        self.told([(("cid", "ann"), NOTE), (("bob",), [])], "high", "holds cid 0 horn", "notes 1 ann 0:0:1", "notes 1 cid 0:0:1")

    def test_each_bar(self):
        score = read_rows("notes 0 dan 0:0:1", "notes 1 dan 1:7:1")
        self.assertEqual([staff_bar(score, "mid", bar)[0][1][0][0] for bar in (0, 1)], [(0, 0), (1, 7)])


class Unstaffed(unittest.TestCase):
    def test_comes_back(self):
        kinds = ("", "0:0:1", "0:0:1/2 0:0:1/2")
        for picked in itertools.product(kinds, repeat=3):
            rows = ["notes 1 %s %s" % (player, items) for player, items in zip(("ann", "bob", "cid"), picked) if items]
            score = read_rows("notes 0 ann 1:7:1", "notes 1 eve 1:7:1", *rows)
            expected = {player: items for (bar, player), items in score.notes.items() if bar == 1 and player != "eve"}
            self.assertEqual(unstaffed(staff_bar(score, "high", 1)), expected)

    def test_of_pairs(self):
        pairs = [(("a", "c"), NOTE), (("b",), []), (("d",), RESTED)]
        self.assertEqual(unstaffed(pairs), {"a": NOTE, "c": NOTE, "d": RESTED})
        self.assertEqual(unstaffed([(("a", "b"), [])]), {})
        self.assertEqual(unstaffed([]), {})

    def test_the_asker_s_own(self):
        pairs = [(("a", "c"), list(NOTE)), (("b",), [])]
        handed_in = copy.deepcopy(pairs)
        told = unstaffed(pairs)
        self.assertEqual([type(told), type(told["a"])], [dict, list])
        found = changeable(pairs) + changeable(told)
        self.assertEqual(len(set(map(id, found))), len(found))
        told["a"].append("changed")
        told["b"] = "changed"
        self.assertEqual(pairs, handed_in)
        self.assertEqual(unstaffed(pairs), {"a": NOTE, "c": NOTE})


class Refusals(unittest.TestCase):
    def setUp(self):
        self.score = read_rows("notes 0 ann 0:0:1")

    def test_names_that_are_no_staff_s(self):
        for name in ("ann", "none", "horn", "", "High", "high ", "a\nb", "\u00e4", "x" * 5000):
            with self.assertRaises(NoStaff):
                staff_bar(self.score, name, 0)

    def test_bars_that_are_none(self):
        for bar in (-1, -2, -3, 2, 3, 200, 10 ** 5000, -(10 ** 5000)):
            for staff in ("high", "low"):
                with self.assertRaises(NoBar):
                    staff_bar(self.score, staff, bar)

    def test_both_at_once(self):
        for bar in (-1, 2):
            with self.assertRaises(NoStaff):
                staff_bar(self.score, "none", bar)
        with self.assertRaises(NoStaff):
            staff_bar(read_score(""), "high", 0)
        with self.assertRaises(NoBar):
            staff_bar(read_score("player ann\nstaff s ann"), "s", 0)


class TheAskersOwn(unittest.TestCase):
    def test_of_a_staff_s_bar(self):
        score = read_rows("notes 1 ann 0:0:1", "notes 1 cid 0:0:1")
        ahead = copy.deepcopy(vars(score))
        told = staff_bar(score, "high", 1)
        self.assertEqual([type(told), type(told[0]), type(told[0][0]), type(told[0][1])], [list, tuple, tuple, list])
        found = changeable(vars(score)) + changeable(told) + changeable(staff_bar(score, "high", 1))
        self.assertEqual(len(set(map(id, found))), len(found))
        for inner in changeable(told):
            inner.append("changed")
        self.assertEqual(vars(score), ahead)
        self.assertEqual(staff_bar(score, "high", 1), [(("cid", "ann"), NOTE), (("bob",), [])])


if __name__ == "__main__":
    unittest.main()
