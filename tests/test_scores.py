"""The fields of a score: points 9 and 1."""

import unittest

from partsmith.scores import Score, read_score

FIELDS = ("players", "instruments", "staffs", "bars", "upbeat", "holds", "notes", "repeats", "jump")
FULL = """
player ann
player bob
  instrument clarinet 2 2 6/16
instrument flute 0 0 0

bar 4/4 0 start
staff low bob
staff high ann
bar 6/8 -3
upbeat 2/4
player cid
bar 2/2 7 slow da
bar 4/4 0
holds bob 1 flute
notes 2 ann 0:0:1/2 r:1/2
holds ann 0 clarinet
notes 0 cid -3:3:1/4 r:1/8 1:7:1/8
holds bob 3 clarinet
notes 1 ann 0:12:3/4
notes 0 ann 0:0:1/2
repeat 0 1 3 0:1,3 1:2
bar 1/32 0
repeat 2 2 2
jump 3 2 2 4
"""


def fields(score):
    return {name: getattr(score, name) for name in FIELDS}


def changeable(value):
    """All lists and dicts in a value."""
    found = []
    if isinstance(value, (list, dict)):
        found.append(value)
    if isinstance(value, dict):
        value = list(value.items())
    if isinstance(value, (list, tuple)):
        for part in value:
            found.extend(changeable(part))
    return found


class Fields(unittest.TestCase):
    def test_of_a_score_that_has_all(self):
        self.assertEqual(fields(read_score(FULL)), {
            "players": ["ann", "bob", "cid"],
            "instruments": {"clarinet": ((2, 2), (3, 8)), "flute": ((0, 0), (0, 1))},
            "staffs": {"low": ("bob",), "high": ("ann",)},
            "bars": [((4, 4), 0, ("start",)), ((6, 8), -3, ()), ((2, 2), 7, ("slow", "da")), ((4, 4), 0, ()),
                     ((1, 32), 0, ())],
            "upbeat": (1, 2),
            "holds": {"bob": [(1, "flute"), (3, "clarinet")], "ann": [(0, "clarinet")]},
            "notes": {(2, "ann"): [((0, 0), (1, 2)), (None, (1, 2))],
                      (0, "cid"): [((-3, 3), (1, 4)), (None, (1, 8)), ((1, 7), (1, 8))],
                      (1, "ann"): [((0, 12), (3, 4))], (0, "ann"): [((0, 0), (1, 2))]},
            "repeats": [(0, 1, 3, ((0, (1, 3)), (1, (2,)))), (2, 2, 2, ())],
            "jump": (3, 2, 2, 4),
        })

    def test_dicts_in_the_order_of_their_rows(self):
        score = read_score(FULL)
        self.assertEqual(list(score.instruments), ["clarinet", "flute"])
        self.assertEqual(list(score.staffs), ["low", "high"])
        self.assertEqual(list(score.holds), ["bob", "ann"])
        self.assertEqual(list(score.notes), [(2, "ann"), (0, "cid"), (1, "ann"), (0, "ann")])

    def test_of_a_score_that_has_none(self):
        self.assertEqual(fields(read_score("")), {"players": [], "instruments": {}, "staffs": {}, "bars": [], "upbeat": None,
                                                  "holds": {}, "notes": {}, "repeats": [], "jump": None})

    def test_a_jump_without_coda(self):
        self.assertEqual(read_score("bar 4/4 0\njump 0 0 0 end").jump, (0, 0, 0, None))

    def test_without_holds_and_notes_in_none(self):
        score = read_score("player ann\nplayer bob\ninstrument x 0 0 0\nbar 4/4 0\nbar 4/4 0\nholds bob 1 x\nnotes 1 bob 0:0:1")
        self.assertEqual(score.holds, {"bob": [(1, "x")]})
        self.assertEqual(score.notes, {(1, "bob"): [((0, 0), (1, 1))]})

    def test_a_metre_stays_as_told(self):
        self.assertEqual([bar[0] for bar in read_score("bar 2/4 0\nbar 6/8 0\nbar 32/32 0").bars], [(2, 4), (6, 8), (32, 32)])

    def test_kinds(self):
        score = read_score(FULL)
        self.assertIs(type(score), Score)
        kinds = {name: type(value) for name, value in fields(score).items()}
        self.assertEqual(kinds, {"players": list, "instruments": dict, "staffs": dict, "bars": list, "upbeat": tuple,
                                 "holds": dict, "notes": dict, "repeats": list, "jump": tuple})
        self.assertEqual({type(told) for told in score.instruments.values()}, {tuple})
        self.assertEqual({type(part) for told in score.instruments.values() for part in told}, {tuple})
        self.assertEqual({type(players) for players in score.staffs.values()}, {tuple})
        self.assertEqual([type(part) for bar in score.bars for part in bar], [tuple, int, tuple] * 5)
        self.assertEqual({type(holds) for holds in score.holds.values()}, {list})
        self.assertEqual({type(hold) for holds in score.holds.values() for hold in holds}, {tuple})
        self.assertEqual({type(items) for items in score.notes.values()}, {list})
        self.assertEqual({type(item) for items in score.notes.values() for item in items}, {tuple})
        self.assertEqual({type(repeat) for repeat in score.repeats}, {tuple})
        self.assertEqual([type(part) for part in score.repeats[0]], [int, int, int, tuple])
        self.assertEqual([type(part) for end in score.repeats[0][3] for part in end], [int, tuple, int, tuple])


class Own(unittest.TestCase):
    def test_a_changed_score_changes_no_later_one(self):
        for text in (FULL, ""):
            plain = fields(read_score(text))
            changed = read_score(text)
            for value in changeable(list(fields(changed).values())):
                if isinstance(value, list):
                    value.append("changed")
                else:
                    value["changed"] = "changed"
            changed.jump = "changed"
            self.assertEqual(fields(read_score(text)), plain)

    def test_no_two_lists_or_dicts_are_the_same(self):
        for text in (FULL, ""):
            found = changeable([fields(read_score(text)), fields(read_score(text))])
            self.assertEqual(len({id(value) for value in found}), len(found))

    def test_like_items_of_two_players_are_two_lists(self):
        text = "player ann\nplayer bob\nbar 4/4 0\nbar 4/4 0\nnotes 0 ann 0:0:1\nnotes 0 bob 0:0:1\nnotes 1 ann 0:0:1"
        score = read_score(text)
        score.notes[(0, "ann")].append("changed")
        self.assertEqual(score.notes[(0, "bob")], [((0, 0), (1, 1))])
        self.assertEqual(score.notes[(1, "ann")], [((0, 0), (1, 1))])

    def test_a_refused_text_leaves_nothing_behind(self):
        for text in ("player ann\nnone", "player ann\nbar 4/4 0\nnotes 0 ann 0:0:1\nplayer ann"):
            with self.assertRaises(ValueError):
                read_score(text)
            self.assertEqual(read_score("player ann").players, ["ann"])
            self.assertEqual(read_score("").players, [])


if __name__ == "__main__":
    unittest.main()
