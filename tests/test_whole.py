"""The whole program over a score as large as point 2 lets it be, and over one that tells nothing."""

import copy
import unittest

from partsmith.changing import changed_parts, with_bar
from partsmith.desk import answers
from partsmith.lengths import added
from partsmith.pages import pages_of, width_of
from partsmith.parts import part_of
from partsmith.playing import bar_length, late_changes, played
from partsmith.scores import read_score
from partsmith.scoretext import score_text
from partsmith.staffs import staff_bar, unstaffed
from partsmith.together import frame_of, played_part, put_together

PLAYERS = ["p%d" % number for number in range(12)]
TURNS = ("0 0", "2 2", "-3 3", "1 -5", "12 84", "-12 -84", "5 11", "-5 1", "-2 -2", "3 9", "4 4", "-1 5")


def rows_of_bars():
    rows = []
    for bar in range(200):
        metre = ("4/4", "3/4", "6/8", "4/4")[bar // 23 % 4]
        rows.append("bar %s %d%s" % (metre, (bar // 17 * 5) % 15 - 7, " mark%d" % bar if bar % 31 == 30 else ""))
    return rows


def rows_of_notes(rows):
    told = []
    for bar in range(200):
        length = (1, 4) if bar == 0 else (1, 1) if rows[bar].split(" ")[1] == "4/4" else (3, 4)
        for number, player in enumerate(PLAYERS):
            if (bar * 7 + number * 11) // (number + 3) % 4 == 0:
                fifths = (bar + number) % 40 - 20
                note = "%d:%d:%d/%d" % (fifths, 7 * fifths % 12, length[0], 40 * length[1])
                told.append("notes %d %s %s" % (bar, player, " ".join([note] * 39 + ["r" + note[note.rindex(":"):]])))
    return told


def large_text():
    bars = rows_of_bars()
    rows = ["player " + player for player in PLAYERS]
    rows.extend("instrument i%d %s %d/4" % (number, turn, number) for number, turn in enumerate(TURNS))
    rows.extend("staff s%d %s" % (number, player) for number, player in enumerate(PLAYERS))
    rows.extend(bars + ["upbeat 1/4"])
    for number, player in enumerate(PLAYERS):
        rows.extend("holds %s %d i%d" % (player, bar * 9 + number, (bar + number) % 12) for bar in range(20))
    rows.extend(rows_of_notes(bars))
    rows.extend("repeat %d %d 3 %d:1,3 %d:2" % (bar, bar + 6, bar + 3, bar + 5) for bar in range(1, 181, 9))
    rows.append("jump 199 0 190 end")
    return "\n".join(rows)


class Large(unittest.TestCase):
    @classmethod
    def setUpClass(cls):
        cls.text = large_text()
        cls.score = read_score(cls.text)

    def setUp(self):
        self.ahead = copy.deepcopy(vars(self.score))

    def tearDown(self):
        self.assertEqual(vars(self.score), self.ahead)

    def test_as_large_as_may_be(self):
        score = self.score
        counts = [len(each) for each in (score.players, score.instruments, score.staffs, score.bars, score.repeats)]
        self.assertEqual(counts, [12, 12, 12, 200, 20])
        self.assertEqual({len(holds) for holds in score.holds.values()}, {20})
        self.assertEqual({len(items) for items in score.notes.values()}, {40})

    def test_written_and_read(self):
        written = score_text(self.score)
        again = read_score(written)
        self.assertEqual(vars(again), vars(self.score))
        self.assertEqual(score_text(again), written)

    def test_put_together(self):
        for shift in (1, 3):
            parts = {player: part_of(self.score, player, 1 + (number * shift) % 5) for number, player in enumerate(PLAYERS)}
            self.assertEqual(vars(put_together(frame_of(self.score), parts)), vars(self.score))

    def test_parts_played(self):
        taken = played(self.score)
        end = (0, 1)
        for bar, time, count in taken:
            self.assertEqual(time, end)
            end = added(end, bar_length(self.score, bar))
        for player in PLAYERS[:3]:
            told = played_part(frame_of(self.score), player, part_of(self.score, player, 2))
            self.assertEqual([triple[:2] for triple in told], [triple[:2] for triple in taken])
            self.assertEqual([not triple[2] for triple in told], [(triple[0], player) not in self.score.notes for triple in taken])

    def test_staffs(self):
        for bar in (0, 57, 199):
            told = {}
            for staff in self.score.staffs:
                told.update(unstaffed(staff_bar(self.score, staff, bar)))
            self.assertEqual(told, {place[1]: items for place, items in self.score.notes.items() if place[0] == bar})

    def test_changed(self):
        items = [((0, 0), bar_length(self.score, 100))]
        changed = with_bar(self.score, 100, "p5", items)
        told = changed_parts(self.score, 100, "p5", items, 2)
        for player, (part, ahead, behind) in zip(PLAYERS, told):
            self.assertEqual(part, part_of(changed, player, 2))
            old = part_of(self.score, player, 2)
            self.assertEqual(part[:ahead] + part[len(part) - behind:], old[:ahead] + old[len(old) - behind:])
        self.assertLess(told[5][1] + told[5][2], len(told[5][0]))

    def test_desk(self):
        deeds = ["play", "part p3 2", "late p4", "shared s7 150", "pages p2 2 400 1/4", "pages p2 2 41 9"]
        texts = answers("\n".join(deeds + [self.text]))
        self.assertEqual(len(texts[0].split(" ")), len(played(self.score)))
        self.assertEqual(len(texts[1].split(" | ")), len(part_of(self.score, "p3", 2)))
        self.assertEqual(len(texts[2].split()), len(late_changes(self.score, "p4")))
        self.assertGreater(len(late_changes(self.score, "p4")), 0)
        self.assertEqual(texts[3].split(" ")[0], "p7")
        part = part_of(self.score, "p2", 2)
        for text, asked in ((texts[4], (400, (1, 4))), (texts[5], (41, (9, 1)))):
            cut = pages_of(self.score, "p2", part, *asked)
            self.assertEqual(text, " ".join([cut[0]] + [str(row) for row in (cut[1] if cut[0] == "pages" else cut[1:])]))

    def test_pages(self):
        for player in PLAYERS:
            part = part_of(self.score, player, 2)
            told = pages_of(self.score, player, part, 200, (0, 1))
            ends = told[1][1:] + [len(part)]
            widths = [sum(map(width_of, part[start:end])) for start, end in zip(told[1], ends)]
            self.assertEqual((told[0], told[1][0]), ("pages", 0))
            self.assertLessEqual(max(widths), 200)


class Nothing(unittest.TestCase):
    def test_told_of_nothing(self):
        score = read_score("")
        self.assertEqual((played(score), score_text(score)), ([], ""))
        self.assertEqual(vars(put_together(frame_of(score), {})), vars(score))
        self.assertEqual(answers("play"), [""])


if __name__ == "__main__":
    unittest.main()
