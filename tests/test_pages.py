"""Widths of rows, the time round a turn, and pages: points 19, 20 and 1."""

import copy
import itertools
import unittest
from fractions import Fraction

from partsmith.errors import NoPlayer
from partsmith.pages import gap_ahead, pages_of, width_of
from partsmith.parts import part_of
from partsmith.scores import read_score

NOTE = ((0, 0), (1, 1))
REST = (None, (1, 2))
HEAD = ["player ann", "player bob", "instrument clarinet 2 2 1/2"]


def read_rows(*rows):
    return read_score("\n".join(HEAD + list(rows)))


def bars(count):
    return "\n".join(["bar 4/4 0"] * count)


def all_gaps(score, part):
    return [gap_ahead(score, "ann", part, row) for row in range(1, len(part))]


def bar_by_bar(score, player, bar):
    """The time round the beginning of a bar, from the score's notes, other than by a part's rows."""
    spans = []
    time = Fraction(0)
    borders = []
    for number, told in enumerate(score.bars):
        borders.append(time)
        length = Fraction(*told[0]) if number or score.upbeat is None else Fraction(*score.upbeat)
        inner = time
        for pitch, part in score.notes.get((number, player), []):
            if pitch is not None:
                spans.append((inner, inner + Fraction(*part)))
            inner += Fraction(*part)
        time += length
    ahead = [end for start, end in spans if end <= borders[bar]]
    behind = [start for start, end in spans if start >= borders[bar]]
    if not ahead or not behind:
        return None
    between = min(behind) - max(ahead)
    return (between.numerator, between.denominator)


def all_cuts(widths, room, free):
    """All lists of starts that cut the rows into pages, tried one by one."""
    count = len(widths)
    for picked in range(len(free) + 1):
        for inner in itertools.combinations(sorted(free), picked):
            starts = [0] + list(inner)
            ends = list(inner) + [count]
            if all(sum(widths[start:end]) <= room for start, end in zip(starts, ends)):
                yield starts


class Widths(unittest.TestCase):
    def test_rests(self):
        self.assertEqual([width_of(("rest", bar, count)) for bar, count in ((0, 1), (5, 2), (199, 1), (0, 200))], [2] * 4)

    def test_bars(self):
        self.assertEqual(width_of(("bar", 0, [NOTE], None)), 2)
        self.assertEqual(width_of(("bar", 7, [REST, ((0, 0), (1, 4)), REST], None)), 4)
        self.assertEqual(width_of(("bar", 7, [NOTE] * 40, None)), 41)

    def test_bars_with_a_cue(self):
        self.assertEqual(width_of(("bar", 0, [], ("bob", [NOTE]))), 2)
        self.assertEqual(width_of(("bar", 3, [], ("bob", [REST, ((0, 0), (1, 4)), REST]))), 4)

    def test_of_a_part(self):
        score = read_rows(bars(5), "notes 2 bob 0:0:1/2 r:1/2", "notes 4 ann 0:0:1/4 r:1/4 0:0:1/2")
        self.assertEqual([width_of(row) for row in part_of(score, "ann", 1)], [2, 3, 2, 4])

    def test_kind_and_nothing_changed(self):
        row = ("bar", 0, [NOTE], ("bob", [NOTE]))
        self.assertIs(type(width_of(row)), int)
        self.assertEqual((width_of(row), width_of(row)), (3, 3))
        self.assertEqual(row, ("bar", 0, [NOTE], ("bob", [NOTE])))


class Gaps(unittest.TestCase):
    def told(self, gaps, *rows, quiet=1):
        score = read_rows(*rows)
        self.assertEqual(all_gaps(score, part_of(score, "ann", quiet)), gaps)

    def test_bar_to_bar(self):
        self.told([(0, 1), (0, 1)], bars(3), *["notes %d ann 0:0:1" % bar for bar in range(3)])

    def test_rests_among_the_items(self):
        self.told([(1, 4)], bars(2), "notes 0 ann 0:0:3/4 r:1/4", "notes 1 ann 0:0:1")
        self.told([(1, 8)], bars(2), "notes 0 ann 0:0:1", "notes 1 ann r:1/8 0:0:7/8")
        self.told([(17, 24)], bars(2), "notes 0 ann 0:0:1/2 r:1/4 0:0:1/24 r:1/8 r:1/12", "notes 1 ann r:1/4 r:1/4 0:0:1/4 r:1/4")

    def test_rests_between_notes_of_one_bar(self):
        self.told([(0, 1)], bars(2), "notes 0 ann 0:0:1/4 r:1/2 0:0:1/4", "notes 1 ann 0:0:1/4 r:1/2 0:0:1/4")

    def test_over_rests(self):
        # Each turn round the rest has the whole of it.
        self.told([(3, 1), (3, 1)], bars(5), "notes 0 ann 0:0:1", "notes 4 ann 0:0:1")
        self.told([(15, 4), (15, 4)], bars(5), "notes 0 ann 0:0:1/2 r:1/2", "notes 4 ann r:1/4 0:0:3/4")

    def test_over_rests_that_break(self):
        self.told([(7, 4)] * 3, bars(2), "bar 3/4 0", "bar 2/4 0", "notes 0 ann 0:0:1", "notes 3 ann 0:0:1/2")

    def test_over_cues(self):
        self.told([(3, 1)] * 4, bars(5), "notes 0 ann 0:0:1", "notes 4 ann 0:0:1", "notes 2 bob 0:0:1")
        self.told([None] * 2, bars(4), "notes 3 ann 0:0:1", "notes 2 bob 0:0:1")

    def test_no_note_ahead(self):
        self.told([None, (0, 1)], bars(4), "notes 2 ann 0:0:1", "notes 3 ann 0:0:1")

    def test_none_from_there_on(self):
        self.told([(0, 1), None], bars(4), "notes 0 ann 0:0:1", "notes 1 ann 0:0:1")
        self.told([None], "bar 4/4 0", "bar 3/4 0")

    def test_with_an_upbeat(self):
        self.told([(1, 8), (1, 1)], bars(3), "upbeat 1/4", "notes 0 ann 0:0:1/8 r:1/8", "notes 1 ann 0:0:1/2 r:1/2",
                  "notes 2 ann r:1/2 0:0:1/2")
        self.told([(9, 8), (9, 8)], bars(3), "upbeat 1/4", "notes 0 ann 0:0:1/8 r:1/8", "notes 2 ann 0:0:1")
        self.told([None, (0, 1)], bars(3), "upbeat 1/4", "notes 1 ann 0:0:1", "notes 2 ann 0:0:1")

    def test_by_the_bars_not_as_played(self):
        self.told([(1, 1), (1, 1), (0, 1)], bars(4), "notes 0 ann 0:0:1", "notes 2 ann 0:0:1", "notes 3 ann 0:0:1",
                  "repeat 1 1 5", "jump 3 0 0 end")

    def test_whatever_quiet(self):
        rows = (bars(6), "notes 0 ann 0:0:1/2 r:1/2", "notes 5 ann 0:0:1", "notes 2 bob 0:0:1")
        self.told([(9, 2)] * 4, *rows, quiet=1)
        self.told([(9, 2)] * 2, *rows, quiet=5)

    def test_of_a_turned_instrument(self):
        self.told([(1, 4)], bars(2), "holds ann 0 clarinet", "notes 0 ann 6:6:3/4 r:1/4", "notes 1 ann 0:0:1")

    def test_many(self):
        shapes = ("", "0:0:1/4", "0:0:1/8 r:1/8", "r:1/6 0:0:1/12", "r:1/16 0:0:1/16 r:1/16 0:0:1/32 r:1/32")
        for picked in itertools.product(shapes, repeat=4):
            rows = ["notes %d ann %s" % (bar, items) for bar, items in enumerate(picked) if items]
            score = read_rows("bar 2/4 0", "bar 1/4 0", "bar 1/4 0", "bar 2/8 0", "upbeat 1/4", "notes 1 bob 0:0:1/4", *rows)
            part = part_of(score, "ann", 1)
            expected = [bar_by_bar(score, "ann", row[1]) for row in part[1:]]
            self.assertEqual(all_gaps(score, part), expected)


class Pages(unittest.TestCase):
    def told(self, answer, room, time, *rows):
        score = read_rows(*rows)
        part = part_of(score, "ann", 1)
        self.assertEqual(pages_of(score, "ann", part, room, time), answer)
        # Asked again, it tells the same.
        self.assertEqual(pages_of(score, "ann", part, room, time), answer)

    def test_a_part_of_no_rows(self):
        score = read_score("player ann")
        for room in (10, 0, -5):
            self.assertEqual(pages_of(score, "ann", part_of(score, "ann", 1), room, (1, 1)), ("pages", []))
        self.assertEqual(pages_of(read_rows(bars(2)), "ann", [], 0, (0, 1)), ("pages", []))

    def test_all_on_one_page(self):
        rows = (bars(3), *["notes %d ann 0:0:1" % bar for bar in range(3)])
        self.told(("pages", [0]), 6, (1, 1), *rows)
        self.told(("pages", [0]), 10 ** 5000, (1, 1), *rows)
        self.told(("barred", 0, 2), 5, (1, 1), *rows)
        self.told(("pages", [0]), 2, (9, 1), bars(200))

    def test_times_just_reached_and_just_missed(self):
        rows = (bars(2), "notes 0 ann 0:0:3/4 r:1/4", "notes 1 ann r:1/8 0:0:7/8")
        self.told(("pages", [0, 1]), 3, (3, 8), *rows)
        self.told(("barred", 0, 1), 3, (4, 9), *rows)
        self.told(("barred", 0, 1), 3, (47, 125), *rows)
        self.told(("pages", [0, 1]), 3, (187, 500), *rows)

    def test_a_time_of_0(self):
        rows = (bars(4), *["notes %d ann 0:0:1" % bar for bar in range(4)])
        self.told(("pages", [0, 1, 2, 3]), 2, (0, 1), *rows)
        self.told(("pages", [0, 1, 2, 3]), 3, (0, 1), *rows)
        self.told(("pages", [0, 2]), 5, (0, 1), *rows)
        self.told(("barred", 0, 2), 5, (1, 9999), *rows)

    def test_without_a_note_ahead_or_behind_a_turn_is_free(self):
        self.told(("pages", [0, 1]), 2, (9999, 1), bars(3), "notes 2 ann 0:0:1")
        self.told(("pages", [0, 1]), 2, (9999, 1), bars(3), "notes 0 ann 0:0:1")
        self.told(("pages", [0, 1, 2]), 2, (9999, 1), bars(1), "bar 3/4 0", "bar 2/4 0")

    def test_the_first_possible_turn_is_not_the_best(self):
        # Each row is 2 wide, and all turns but that ahead of row 3 are free.
        rows = (bars(6), "notes 0 ann 0:0:1", "notes 2 ann 0:0:1", "notes 3 ann 0:0:1", "notes 5 ann 0:0:1")
        self.told(("pages", [0, 2, 4]), 4, (1, 1), *rows)
        score = read_rows(*rows)
        part = part_of(score, "ann", 1)
        self.assertEqual(all_gaps(score, part), [(1, 1), (1, 1), (0, 1), (1, 1), (1, 1)])
        told = pages_of(score, "ann", part, 8, (1, 1))
        self.assertIn(told, (("pages", [0, 2]), ("pages", [0, 4])))

    def test_a_turn_that_leads_nowhere_is_passed_over(self):
        # From row 1 the next free turn is too far, from row 2 it is not.
        rows = (bars(5), "notes 0 ann 0:0:1", "notes 2 ann 0:0:1", "notes 3 ann 0:0:1", "notes 4 ann 0:0:1")
        self.told(("pages", [0, 2]), 6, (1, 1), *rows)
        self.told(("barred", 2, 4), 4, (1, 1), *rows)

    def test_a_row_wider_than_the_room(self):
        rows = (bars(3), "notes 0 ann 0:0:1", "notes 2 ann 0:0:1/4 0:0:1/4 0:0:1/4 0:0:1/4")
        self.told(("barred", 2, 2), 4, (1, 1), *rows)
        self.told(("pages", [0, 2]), 5, (1, 1), *rows)
        self.told(("barred", 0, 0), 4, (0, 1), bars(2), "notes 0 ann 0:0:1/4 0:0:1/4 0:0:1/4 0:0:1/4")

    def test_a_wide_cue(self):
        rows = (bars(3), "notes 0 ann 0:0:1", "notes 1 bob 0:0:1/4 r:1/4 0:0:1/4 r:1/4", "notes 2 ann 0:0:1")
        self.told(("barred", 1, 1), 4, (1, 1), *rows)
        self.told(("pages", [0, 1, 2]), 5, (1, 1), *rows)

    def test_rooms_of_0_and_below(self):
        for room in (1, 0, -1, -(10 ** 5000)):
            self.told(("barred", 0, 0), room, (0, 1), bars(3), "notes 1 ann 0:0:1")

    def test_no_free_turn_that_is_reached(self):
        # The only free turns lie behind what the first page can hold.
        rows = (bars(5), *["notes %d ann 0:0:1" % bar for bar in range(3)], "notes 4 ann 0:0:1")
        self.told(("barred", 0, 2), 4, (1, 1), *rows)
        self.told(("barred", 0, 2), 5, (1, 1), *rows)
        self.told(("pages", [0, 3]), 6, (1, 1), *rows)

    def test_barred_by_what_follows_the_last_turn(self):
        rows = (bars(6), "notes 0 ann 0:0:1", *["notes %d ann 0:0:1/2 0:0:1/2" % bar for bar in range(2, 6)])
        self.told(("barred", 2, 4), 6, (1, 1), *rows)
        self.told(("barred", 2, 5), 9, (1, 1), *rows)
        self.told(("pages", [0, 2]), 12, (1, 1), *rows)

    def test_many_by_all_cuts(self):
        shapes = ("", "0:0:1", "r:1/2 0:0:1/4 r:1/4", "0:0:1/4 r:1/4 0:0:1/2")
        for number, picked in enumerate(itertools.product(shapes, repeat=5)):
            rows = ["notes %d ann %s" % (bar, items) for bar, items in enumerate(picked) if items]
            score = read_rows(bars(5), "bar 3/4 0", "notes 2 bob 0:0:1/2 r:1/2", *rows)
            part = part_of(score, "ann", 1 + number % 2)
            for room, time in itertools.product((3, 4, 6, 9, 20), ((0, 1), (1, 2), (1, 1), (7, 4))):
                self.held(score, part, room, time)

    def held(self, score, part, room, time):
        widths = [width_of(row) for row in part]
        gaps = [None] + all_gaps(score, part)
        free = [row for row in range(1, len(part)) if gaps[row] is None or Fraction(*gaps[row]) >= Fraction(*time)]
        cuts = list(all_cuts(widths, room, free))
        told = pages_of(score, "ann", part, room, time)
        self.assertEqual(pages_of(score, "ann", part, room, time), told)
        if cuts:
            self.assertEqual((told[0], len(told)), ("pages", 2))
            self.assertIn(told[1], cuts)
            self.assertEqual(len(told[1]), min(map(len, cuts)))
            return
        reached = [row for row in [0] + free if row == 0 or list(all_cuts(widths[:row], room, [one for one in free if one < row]))]
        wide = min(row for row in range(max(reached), len(part)) if sum(widths[max(reached):row + 1]) > room)
        self.assertEqual(told, ("barred", max(reached), wide))


class Refusals(unittest.TestCase):
    def test_names_that_are_no_player_s(self):
        score = read_rows(bars(3), "notes 0 ann 0:0:1")
        part = part_of(score, "ann", 1)
        for name in ("cid", "clarinet", "", "Ann", "ann ", "a\nb", "\u00e4", "x" * 5000):
            with self.assertRaises(NoPlayer):
                gap_ahead(score, name, part, 1)
            with self.assertRaises(NoPlayer):
                pages_of(score, name, part, 9, (1, 1))
            with self.assertRaises(NoPlayer):
                pages_of(score, name, [], 9, (1, 1))
        with self.assertRaises(NoPlayer):
            pages_of(read_score(""), "ann", [], 9, (1, 1))


class TheAskersOwn(unittest.TestCase):
    def test_nothing_is_changed(self):
        score = read_rows(bars(4), "notes 0 ann 0:0:1", "notes 1 bob 0:0:1", "notes 3 ann 0:0:1")
        part = part_of(score, "ann", 1)
        handed_in = copy.deepcopy((vars(score), part))
        told = pages_of(score, "ann", part, 4, (1, 1))
        self.assertEqual(told, ("pages", [0, 2]))
        self.assertEqual([type(told), type(told[1])], [tuple, list])
        self.assertEqual(gap_ahead(score, "ann", part, 1), (2, 1))
        self.assertIs(type(gap_ahead(score, "ann", part, 1)), tuple)
        self.assertEqual((vars(score), part), handed_in)
        told[1].append("changed")
        self.assertEqual(pages_of(score, "ann", part, 4, (1, 1)), ("pages", [0, 2]))
        none = pages_of(score, "ann", [], 4, (1, 1))
        none[1].append("changed")
        self.assertEqual(pages_of(score, "ann", [], 4, (1, 1)), ("pages", []))


if __name__ == "__main__":
    unittest.main()
