"""A bar of a player told anew, and what that changes in the parts: points 17 and 1."""

import copy
import itertools
import unittest

from partsmith.changing import changed_parts, with_bar
from partsmith.errors import BadScore, NoBar, NoPlayer
from partsmith.parts import part_of
from partsmith.scores import Score, read_score
from partsmith.scoretext import score_text
from partsmith.together import frame_of, put_together

FIELDS = ("players", "instruments", "staffs", "bars", "upbeat", "holds", "notes", "repeats", "jump")
NOTE = ((0, 0), (1, 1))
HALF = ((1, 7), (1, 2))
REST = (None, (1, 2))
HEAD = """player ann
player bob
instrument clarinet 2 2 1/2
staff all ann bob
bar 4/4 0 start
bar 4/4 6
bar 3/4 6
bar 4/4 6
upbeat 1/4
holds ann 1 clarinet
"""
NOTES = """notes 3 bob 0:0:1
notes 0 ann 0:0:1/4
notes 1 ann 6:6:1
"""
SIGNS = """repeat 1 2 2 1:1 2:2
jump 3 0 2 end"""
TEXT = HEAD + NOTES + SIGNS


def drawn(**lines):
    """A score of one row of signs for each player, in order: x for a bar with notes, . for an empty one."""
    rows = ["player " + player for player in lines]
    rows.extend(["bar 4/4 0"] * max(len(line) for line in lines.values()))
    for player, line in lines.items():
        rows.extend("notes %d %s 0:0:1" % (bar, player) for bar, sign in enumerate(line) if sign == "x")
    return read_score("\n".join(rows))


def fields(score):
    return {name: getattr(score, name) for name in FIELDS}


def changeable(value):
    """All lists and dicts in a value."""
    found = [value] if isinstance(value, (list, dict)) else []
    if isinstance(value, dict):
        value = list(value.values())
    if isinstance(value, (list, tuple)):
        for inner in value:
            found.extend(changeable(inner))
    return found


def spoiled(value):
    """Changes all lists and dicts in a value."""
    for inner in changeable(value):
        if isinstance(inner, dict):
            inner["changed"] = "changed"
        else:
            inner.append("changed")


class ToldAnew(unittest.TestCase):
    def written(self, notes, *deed):
        score = with_bar(read_score(TEXT), *deed)
        self.assertIsInstance(score, Score)
        self.assertEqual(score_text(score), HEAD + notes + SIGNS)
        self.assertEqual(fields(read_score(score_text(score))), fields(score))

    def test_that_had_notes(self):
        self.written("notes 3 bob 0:0:1\nnotes 0 ann 1:7:1/8 r:1/8\nnotes 1 ann 6:6:1\n", 0, "ann",
                     [((1, 7), (1, 8)), (None, (1, 8))])
        self.written("notes 3 bob 1:7:1/2 r:1/2\nnotes 0 ann 0:0:1/4\nnotes 1 ann 6:6:1\n", 3, "bob", [HALF, REST])

    def test_that_had_none(self):
        self.written(NOTES + "notes 0 bob 0:0:1/4\n", 0, "bob", [((0, 0), (1, 4))])
        self.written(NOTES + "notes 2 ann 0:0:3/4\n", 2, "ann", [((0, 0), (3, 4))])

    def test_left_empty(self):
        self.written("notes 3 bob 0:0:1\nnotes 1 ann 6:6:1\n", 0, "ann", [])
        self.written("notes 0 ann 0:0:1/4\nnotes 1 ann 6:6:1\n", 3, "bob", [])

    def test_that_was_empty_and_is(self):
        self.written(NOTES, 2, "bob", [])

    def test_as_it_was(self):
        self.written(NOTES, 1, "ann", [((6, 6), (1, 1))])

    def test_left_empty_and_told_again_stands_last(self):
        score = with_bar(with_bar(read_score(TEXT), 3, "bob", []), 3, "bob", [NOTE])
        self.assertEqual(list(score.notes), [(0, "ann"), (1, "ann"), (3, "bob")])
        self.assertEqual(score.notes, read_score(TEXT).notes)

    def test_several_one_behind_the_other(self):
        score = read_score(TEXT)
        score = with_bar(score, 3, "ann", [NOTE])
        score = with_bar(score, 1, "bob", [NOTE])
        score = with_bar(score, 3, "ann", [HALF, REST])
        self.assertEqual(list(score.notes), [(3, "bob"), (0, "ann"), (1, "ann"), (3, "ann"), (1, "bob")])
        self.assertEqual(score.notes[(3, "ann")], [HALF, REST])

    def test_all_notes_left_out(self):
        score = read_score(TEXT)
        for bar, player in list(score.notes):
            score = with_bar(score, bar, player, [])
        self.assertEqual(fields(score), fields(frame_of(read_score(TEXT))))

    def test_forty_items(self):
        items = [((0, 0), (1, 40))] * 40
        self.assertEqual(with_bar(read_score(TEXT), 3, "ann", items).notes[(3, "ann")], items)

    def test_the_asker_s_own(self):
        score = read_score(TEXT)
        items = [HALF, REST]
        ahead = copy.deepcopy(fields(score))
        told = with_bar(score, 3, "ann", items)
        expected = copy.deepcopy(fields(told))
        self.assertEqual((fields(score), items), (ahead, [HALF, REST]))
        found = changeable(fields(score)) + changeable(fields(told)) + [items]
        self.assertEqual(len(set(map(id, found))), len(found))
        for name in FIELDS:
            spoiled(getattr(told, name))
        self.assertEqual((fields(score), items), (ahead, [HALF, REST]))
        told = with_bar(score, 3, "ann", items)
        items.append("changed")
        for name in FIELDS:
            spoiled(getattr(score, name))
        self.assertEqual(fields(told), expected)

    def test_of_an_empty_list_nothing_is_shared(self):
        score = read_score(TEXT)
        told = with_bar(score, 2, "bob", [])
        found = changeable(fields(score)) + changeable(fields(told))
        self.assertEqual(len(set(map(id, found))), len(found))


class ChangedParts(unittest.TestCase):
    def counts(self, counts, *deed, **lines):
        score = drawn(**lines)
        bar, player, items, quiet = deed
        told = changed_parts(score, bar, player, items, quiet)
        changed = with_bar(score, bar, player, items)
        self.assertEqual([triple[0] for triple in told], [part_of(changed, name, quiet) for name in lines])
        self.assertEqual([triple[1:] for triple in told], counts)

    def test_the_first_rows_alike(self):
        self.counts([(2, 0)], 2, "ann", [HALF, REST], 1, ann="xxx")
        self.counts([(1, 0)], 3, "ann", [], 1, ann="x..x")

    def test_the_last_rows_alike(self):
        self.counts([(0, 2)], 0, "ann", [HALF, REST], 1, ann="xxx")
        self.counts([(0, 2)], 0, "ann", [], 1, ann="xxx")

    def test_both(self):
        self.counts([(1, 1)], 1, "ann", [HALF, REST], 1, ann="xxx")
        self.counts([(1, 1)], 2, "ann", [NOTE], 1, ann="x...x")

    def test_all_rows_alike(self):
        self.counts([(3, 0)], 1, "ann", [NOTE], 1, ann="xxx")
        self.counts([(3, 0), (1, 0)], 2, "ann", [], 1, ann="x..x", bob="....")

    def test_no_rows_alike(self):
        self.counts([(0, 0)], 0, "ann", [HALF, REST], 1, ann="x")
        self.counts([(0, 0)], 1, "ann", [NOTE], 1, ann="...")

    def test_other_players(self):
        # Bob's rest is no other one; in cid's part ann's bar was the cue.
        self.counts([(1, 1), (1, 0), (1, 1)], 1, "ann", [HALF, REST], 1, ann="xxx", bob="...", cid="..x")

    def test_a_cue_that_moves(self):
        self.counts([(2, 0), (1, 1)], 3, "ann", [], 1, ann=".x.x", bob="x...x")
        self.counts([(1, 0), (0, 1)], 1, "ann", [NOTE], 1, ann="x..", bob="..x")

    def test_a_row_counts_once(self):
        # What is alike at the beginning is not counted at the end again.
        self.counts([(2, 0)], 2, "ann", [NOTE], 1, ann="xx.")
        self.counts([(1, 0), (1, 0)], 1, "ann", [], 9, ann="xx", bob="..")

    def test_with_the_told_quiet(self):
        score = drawn(ann="x..x", bob=".x..")
        self.assertEqual(changed_parts(score, 1, "bob", [HALF, REST], 2)[0],
                         ([("bar", 0, [NOTE], None), ("bar", 1, [], ("bob", [HALF, REST])), ("rest", 2, 1),
                           ("bar", 3, [NOTE], None)], 1, 2))
        self.assertEqual(changed_parts(score, 1, "bob", [HALF, REST], 3)[0],
                         ([("bar", 0, [NOTE], None), ("rest", 1, 2), ("bar", 3, [NOTE], None)], 3, 0))

    def test_in_the_score_s_order(self):
        told = changed_parts(read_score(TEXT), 3, "bob", [], 1)
        written = ("bar", 1, [((-4, 8), (1, 1))], None)
        start = ("bar", 0, [((0, 0), (1, 4))], None)
        self.assertEqual(told, [([start, written, ("rest", 2, 1), ("rest", 3, 1)], 4, 0),
                                ([("rest", 0, 1), ("rest", 1, 1), ("rest", 2, 1), ("rest", 3, 1)], 1, 0)])

    def test_all_alike_rows_by_counting(self):
        for signs in itertools.product(".x", repeat=8):
            lines = {"ann": "".join(signs[:4]), "bob": "".join(signs[4:])}
            score = drawn(**lines)
            for bar, items in itertools.product(range(4), ([], [NOTE], [HALF, REST])):
                told = changed_parts(score, bar, "bob", items, 1)
                for player, (part, ahead, behind) in zip(lines, told):
                    self.alike(part_of(score, player, 1), part, ahead, behind)

    def alike(self, old, new, ahead, behind):
        left = min(len(old), len(new))
        self.assertLessEqual(ahead + behind, left)
        self.assertEqual(old[:ahead], new[:ahead])
        self.assertEqual(old[len(old) - behind:], new[len(new) - behind:])
        self.assertTrue(ahead == left or old[ahead] != new[ahead])
        self.assertTrue(ahead + behind == left or old[len(old) - behind - 1] != new[len(new) - behind - 1])

    def test_the_asker_s_own(self):
        score = read_score(TEXT)
        items = [HALF, REST]
        ahead = copy.deepcopy(fields(score))
        told = changed_parts(score, 3, "ann", items, 1)
        kept = copy.deepcopy(told)
        self.assertEqual((fields(score), items), (ahead, [HALF, REST]))
        self.assertEqual([type(told), type(told[0]), type(told[0][0]), type(told[0][1])], [list, tuple, list, int])
        found = changeable(fields(score)) + changeable(told) + [items]
        self.assertEqual(len(set(map(id, found))), len(found))
        spoiled(told)
        self.assertEqual((fields(score), items), (ahead, [HALF, REST]))
        self.assertEqual(changed_parts(score, 3, "ann", items, 1), kept)

    def test_handed_in_again(self):
        score = read_score(TEXT)
        told = changed_parts(score, 3, "ann", [HALF, REST], 1)
        parts = {player: triple[0] for player, triple in zip(score.players, told)}
        self.assertEqual(fields(put_together(frame_of(score), parts)), fields(with_bar(score, 3, "ann", [HALF, REST])))


class Refusals(unittest.TestCase):
    def setUp(self):
        self.score = read_score(TEXT)
        self.ahead = copy.deepcopy(fields(self.score))

    def refused(self, refusal, bar, player, items):
        """Both refuse alike, and neither changes the score."""
        with self.assertRaises(refusal) as first:
            with_bar(self.score, bar, player, items)
        with self.assertRaises(refusal) as second:
            changed_parts(self.score, bar, player, items, 1)
        self.assertEqual(fields(self.score), self.ahead)
        if refusal is BadScore:
            for caught in (first, second):
                self.assertEqual((caught.exception.place, caught.exception.word), (bar, "length"))

    def test_names_that_are_no_player_s(self):
        for name in ("cid", "clarinet", "all", "", "Ann", "ann ", "a\nb", "\u00e4", "x" * 5000):
            self.refused(NoPlayer, 3, name, [NOTE])
            self.refused(NoPlayer, 3, name, [])

    def test_bars_that_are_none(self):
        for bar in (-1, -4, 4, 5, 200, 10 ** 5000, -(10 ** 5000)):
            self.refused(NoBar, bar, "ann", [NOTE])
            self.refused(NoBar, bar, "ann", [])

    def test_too_long(self):
        self.refused(BadScore, 3, "ann", [NOTE, HALF])
        self.refused(BadScore, 3, "ann", [((0, 0), (33, 32))])
        self.refused(BadScore, 2, "ann", [NOTE])
        self.refused(BadScore, 0, "ann", [NOTE])

    def test_too_short(self):
        self.refused(BadScore, 3, "bob", [HALF])
        self.refused(BadScore, 3, "bob", [((0, 0), (31, 32))])
        self.refused(BadScore, 0, "bob", [((0, 0), (1, 8))])

    def test_rests_alone(self):
        self.refused(BadScore, 3, "ann", [REST, REST])
        self.refused(BadScore, 3, "ann", [(None, (1, 1))])
        self.refused(BadScore, 3, "ann", [REST])

    def test_several_at_once(self):
        self.refused(NoPlayer, 4, "cid", [HALF])
        self.refused(NoPlayer, -1, "cid", [NOTE])
        self.refused(NoPlayer, 3, "cid", [HALF])
        self.refused(NoBar, 4, "ann", [HALF])
        self.refused(NoBar, -1, "ann", [REST, REST])

    def test_a_score_without_bars_or_players(self):
        self.score = read_score("player ann")
        self.ahead = copy.deepcopy(fields(self.score))
        self.refused(NoBar, 0, "ann", [])
        self.score = read_score("bar 4/4 0")
        self.ahead = copy.deepcopy(fields(self.score))
        self.refused(NoPlayer, 0, "ann", [])


if __name__ == "__main__":
    unittest.main()
