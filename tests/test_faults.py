"""The faults of a score's rows and the order in which they are due: point 7, and the bounds of point 2."""

import unittest

from partsmith.errors import BadScore, ScoreError
from partsmith.scores import read_score

HEAD = ["player ann", "player bob", "instrument flute 0 0 0", "bar 4/4 0", "bar 3/4 0", "bar 4/4 0", "bar 4/4 0"]
MANY_ITEMS = " ".join(["0:0:1/44"] * 44)


class Case(unittest.TestCase):
    def check(self, rows, place, word):
        """The rows are refused at the place, also where rows of blanks stand ahead of them and between them."""
        parted = [blank for row in rows for blank in (row, "", "  ")]
        for text, where in (("\n".join(rows), place), ("\n \n" + "\n".join(rows), place + 2),
                            ("\n".join(parted), 3 * place)):
            with self.subTest(text=text[-300:]):
                with self.assertRaises(BadScore) as taken:
                    read_score(text)
                self.assertEqual((taken.exception.place, taken.exception.word), (where, word))

    def fault(self, word, *rows):
        """The last row is refused with the word, behind the head and the others."""
        read_score("\n".join(HEAD + list(rows[:-1])))
        self.check(HEAD + list(rows), len(HEAD) + len(rows) - 1, word)

    def fine(self, *rows):
        return read_score("\n".join(HEAD + list(rows)))


class Refusal(Case):
    def test_fields_and_class(self):
        with self.assertRaises(ScoreError) as taken:
            read_score("none")
        self.assertIs(type(taken.exception), BadScore)
        self.assertIs(type(taken.exception.place), int)
        self.assertIs(type(taken.exception.word), str)


class Twice(Case):
    def test_players(self):
        self.fault("twice", "player ann")
        self.fault("twice", "player cid", "player cid")

    def test_instruments(self):
        self.fault("twice", "instrument flute 0 0 0")
        self.fault("twice", "instrument flute 2 2 1/4")

    def test_staffs(self):
        self.fault("twice", "staff s ann", "staff s bob")

    def test_a_player_in_two_staffs(self):
        self.fault("twice", "staff s ann", "staff t ann")
        self.fault("twice", "staff s ann", "staff t bob ann")
        self.fault("twice", "player cid", "staff s cid ann", "staff u bob", "staff t ann")

    def test_a_player_twice_in_one_staff(self):
        self.fault("twice", "staff s ann ann")
        self.fault("twice", "staff s ann bob ann")

    def test_one_name_for_things_of_several_sorts(self):
        score = self.fine("player flute", "instrument ann 0 0 0", "staff ann ann", "bar 4/4 0 ann ann")
        self.assertEqual(score.players, ["ann", "bob", "flute"])
        self.assertEqual(list(score.instruments), ["flute", "ann"])
        self.assertEqual(score.staffs, {"ann": ("ann",)})

    def test_upbeats(self):
        self.fault("twice", "upbeat 1/4", "upbeat 1/4")
        self.fault("twice", "upbeat 1/4", "upbeat 1/8")

    def test_holds_at_the_same_bar_or_an_earlier_one(self):
        self.fault("twice", "holds ann 2 flute", "holds ann 2 flute")
        self.fault("twice", "holds ann 2 flute", "holds ann 1 flute")
        self.fault("twice", "holds ann 0 flute", "holds ann 3 flute", "holds bob 1 flute", "holds ann 2 flute")
        self.fine("holds ann 2 flute", "holds bob 2 flute", "holds ann 3 flute")
        self.fine("holds ann 2 flute", "holds bob 1 flute")

    def test_notes(self):
        self.fault("twice", "notes 0 ann 0:0:1", "notes 0 ann 0:0:1")
        self.fine("notes 0 ann 0:0:1", "notes 0 bob 0:0:1", "notes 2 ann 0:0:1")

    def test_jumps(self):
        self.fault("twice", "jump 2 0 1 end", "jump 2 0 1 end")
        self.fault("twice", "jump 2 0 1 3", "jump 3 1 2 end")


class Names(Case):
    def test_players_of_staffs(self):
        self.fault("name", "staff s cid")
        self.fault("name", "staff s ann cid")
        self.fault("name", "staff s cid ann")
        self.fault("name", "staff s flute")

    def test_holds(self):
        self.fault("name", "holds cid 0 flute")
        self.fault("name", "holds ann 0 horn")
        self.fault("name", "holds ann 0 bob")
        self.fault("name", "holds flute 0 flute")
        self.fault("name", "staff s ann", "holds s 0 flute")

    def test_notes(self):
        self.fault("name", "notes 0 cid 0:0:1")
        self.fault("name", "notes 0 flute 0:0:1")

    def test_told_by_a_later_row(self):
        self.check(["staff s ann", "player ann"], 0, "name")
        self.check(["bar 4/4 0", "notes 0 ann 0:0:1", "player ann"], 1, "name")
        self.check(["bar 4/4 0", "player ann", "holds ann 0 flute", "instrument flute 0 0 0"], 2, "name")
        self.check(["bar 4/4 0", "instrument flute 0 0 0", "holds ann 0 flute", "player ann"], 2, "name")


class Bars(Case):
    def test_holds(self):
        self.fault("bar", "holds ann 4 flute")
        self.fault("bar", "holds ann 999 flute")
        self.fine("holds ann 3 flute")

    def test_notes(self):
        self.fault("bar", "notes 4 ann 0:0:1")
        self.fine("notes 3 ann 0:0:1")

    def test_upbeats(self):
        self.check(["upbeat 1/4"], 0, "bar")
        self.check(["player ann", "upbeat 1/4", "bar 4/4 0"], 1, "bar")
        self.check(["upbeat 9999", "bar 4/4 0"], 0, "bar")

    def test_repeats(self):
        self.fault("bar", "repeat 0 4 2")
        self.fault("bar", "repeat 4 3 2")
        self.fault("bar", "repeat 4 4 2")
        self.fault("bar", "repeat 0 3 2 4:1,2")
        self.fault("bar", "repeat 0 3 2 3:1 4:2")
        self.fault("bar", "repeat 0 3 2 4:1 3:2")
        self.fine("repeat 0 3 2 3:1,2")

    def test_jumps(self):
        self.fault("bar", "jump 4 0 0 end")
        self.fault("bar", "jump 3 4 0 end")
        self.fault("bar", "jump 3 0 4 end")
        self.fault("bar", "jump 2 0 0 4")
        self.fine("jump 3 0 0 end")
        self.fine("jump 2 0 0 3")

    def test_told_by_a_later_row(self):
        for row in ("holds ann 4 flute", "notes 4 ann 0:0:1", "repeat 0 4 2", "jump 4 0 0 end"):
            self.check(HEAD + [row, "bar 4/4 0"], len(HEAD), "bar")
            self.fine("bar 4/4 0", row)

    def test_without_bars(self):
        for row in ("holds ann 0 flute", "notes 0 ann 0:0:1", "repeat 0 0 2", "jump 0 0 0 end", "jump 0 0 0 0"):
            self.check(["player ann", "instrument flute 0 0 0", row], 2, "bar")


class Lengths(Case):
    def test_items_too_short_or_too_long(self):
        for items in ("0:0:3/4", "0:0:5/4", "0:0:9999/9998", "0:0:9998/9999", "0:0:1/2 r:1/4", "0:0:1/3 0:0:1/3 0:0:1/4",
                      "r:1 0:0:1", "0:0:1/2 0:0:1/2 0:0:1/9999"):
            self.fault("length", "notes 0 ann " + items)
        for items in ("0:0:1", "0:0:4/4", "0:0:1/2 r:1/2", "0:0:1/3 0:0:1/3 r:1/3", "r:1/7 0:0:2/7 0:0:4/7"):
            self.fine("notes 0 ann " + items)

    def test_by_the_metre_of_the_bar(self):
        self.fine("notes 1 ann 0:0:3/4")
        self.fine("bar 6/8 0", "notes 4 ann 0:0:3/4")
        self.fine("bar 32/1 0", "notes 4 ann 0:0:32")
        self.fine("bar 1/32 0", "notes 4 ann 0:0:1/32")
        self.fault("length", "notes 1 ann 0:0:1")

    def test_by_the_upbeat(self):
        self.fine("upbeat 1/4", "notes 0 ann 0:0:1/4", "notes 2 ann 0:0:1")
        self.fault("length", "upbeat 1/4", "notes 0 ann 0:0:1")
        self.fault("length", "upbeat 1/4", "notes 2 ann 0:0:1/4")

    def test_upbeats_that_are_not_shorter(self):
        for word in ("1", "4/4", "2", "9999/9998", "9999"):
            self.fault("length", "upbeat " + word)
        for word in ("9998/9999", "3/4", "1/9999"):
            self.fine("upbeat " + word)

    def test_upbeats_are_held_to_bar_0_alone(self):
        self.check(["bar 2/4 0", "bar 4/4 0", "upbeat 3/4"], 2, "length")
        read_score("bar 4/4 0\nbar 2/4 0\nupbeat 3/4")

    def test_notes_of_bar_0_ahead_of_an_upbeat(self):
        self.fault("length", "notes 0 ann 0:0:1", "upbeat 1/4")
        self.fault("length", "notes 2 bob 0:0:1", "notes 0 bob 0:0:1", "notes 1 bob 0:0:3/4", "upbeat 1/4")
        self.fine("notes 1 ann 0:0:3/4", "upbeat 1/4", "notes 0 ann 0:0:1/4")


class Forms(Case):
    """The conditions themselves are tested by themselves; here it is where the word is due."""

    def test_repeats_and_jumps(self):
        self.fault("form", "repeat 1 0 2")
        self.fault("form", "repeat 0 1 2", "repeat 1 2 2")
        self.fault("form", "repeat 0 1 2 0:1")
        self.fault("form", "jump 0 1 1 end")

    def test_a_repeat_behind_a_jump(self):
        self.fine("repeat 2 3 2", "jump 1 0 1 end")
        self.fault("form", "jump 1 0 1 end", "repeat 2 3 2")
        self.fault("form", "repeat 0 0 2", "jump 1 0 1 end", "repeat 2 3 2")


class Due(Case):
    def test_row_ahead_of_all_others(self):
        self.fault("row", "player ann ann")
        self.fault("row", "instrument flute 0 1 0")
        self.fault("row", "staff s ann", "staff s ann A")
        self.fault("row", "upbeat 1/4", "upbeat 0")
        self.fault("row", "holds ann 2 flute", "holds cid 1 Horn")
        self.fault("row", "holds cid 1000 flute")
        self.fault("row", "notes 0 ann 0:0:1", "notes 0 ann r:1")
        self.fault("row", "notes 9 cid r:1/7")
        self.fault("row", "repeat 9 8 1")
        self.fault("row", "jump 1 0 1 end", "jump 1 0 1 stop")
        self.check(["upbeat 0"], 0, "row")

    def test_twice_ahead_of_name(self):
        self.fault("twice", "staff s ann", "staff s cid")
        self.fault("twice", "staff s ann", "staff t cid ann")
        self.fault("twice", "staff t cid cid")
        self.fault("twice", "holds ann 2 flute", "holds ann 2 horn")

    def test_twice_ahead_of_bar_length_and_form(self):
        self.fault("twice", "notes 0 ann 0:0:1", "notes 0 ann 0:0:1/2")
        self.fault("twice", "upbeat 1/4", "upbeat 2")
        self.fault("twice", "upbeat 1/4", "notes 0 ann 0:0:1/4", "upbeat 1/8")
        self.fault("twice", "jump 1 0 1 end", "jump 9 9 9 9")
        self.fault("twice", "jump 1 0 1 end", "jump 0 1 0 end")

    def test_name_ahead_of_bar_and_length(self):
        self.fault("name", "holds cid 9 flute")
        self.fault("name", "holds ann 9 horn")
        self.fault("name", "notes 9 cid 0:0:1")
        self.fault("name", "notes 0 cid 0:0:1/2")

    def test_bar_ahead_of_length_and_form(self):
        self.fault("bar", "notes 4 ann 0:0:9")
        self.fault("bar", "repeat 4 0 2")
        self.fault("bar", "jump 0 1 2 9")
        self.fault("bar", "repeat 0 3 2 9:1")
        self.fault("bar", "jump 1 0 1 end", "repeat 0 9 2")

    def test_many_behind_all_others(self):
        self.fault("twice", "notes 0 ann 0:0:1", "notes 0 ann " + MANY_ITEMS)
        self.fault("name", "notes 0 cid " + MANY_ITEMS)
        self.fault("bar", "notes 9 ann " + MANY_ITEMS)
        self.fault("length", "notes 1 ann " + MANY_ITEMS)
        self.fault("many", "notes 0 ann " + MANY_ITEMS)

    def test_the_upper_row_of_two(self):
        self.check(["player ann", "player ann", "none"], 1, "twice")
        self.check(["player ann", "none", "player ann"], 1, "row")
        self.check(HEAD + ["notes 0 ann 0:0:1/2", "notes 9 ann 0:0:1", "player ann"], len(HEAD), "length")
        self.check(HEAD + ["repeat 1 0 2", "notes 0 cid 0:0:1", "none"], len(HEAD), "form")
        self.check(HEAD + ["notes 0 ann " + MANY_ITEMS, "none"], len(HEAD), "many")


class Many(Case):
    def names(self, count):
        return ["n" + str(number) for number in range(count)]

    def reached(self, rows, further, word="many"):
        """The rows are read, and the further one is refused."""
        score = read_score("\n".join(rows))
        self.check(rows + [further], len(rows), word)
        return score

    def test_bars(self):
        score = self.reached(["bar 4/4 0"] * 200, "bar 4/4 0")
        self.assertEqual(len(score.bars), 200)
        self.check(["bar 4/4 0"] * 200 + ["bar 4/5 0"], 200, "row")
        self.check(["bar 4/4 0"] * 200 + ["repeat 0 200 2"], 200, "bar")

    def test_players(self):
        rows = ["player " + name for name in self.names(12)]
        self.assertEqual(len(self.reached(rows, "player further").players), 12)
        self.reached(rows, "player n0", "twice")

    def test_instruments(self):
        rows = ["instrument " + name + " 0 0 0" for name in self.names(12)]
        self.assertEqual(len(self.reached(rows, "instrument further 0 0 0").instruments), 12)
        self.reached(rows, "instrument n11 0 0 0", "twice")

    def test_staffs(self):
        # Each staff needs a player of its own, so a thirteenth one has another fault in any case.
        rows = ["player " + name for name in self.names(12)] + ["staff s" + name + " " + name for name in self.names(12)]
        self.assertEqual(len(self.reached(rows, "staff further n0", "twice").staffs), 12)
        self.reached(rows, "staff further none", "name")
        wide = rows[:12] + ["staff s " + " ".join(self.names(12))]
        self.assertEqual(len(self.reached(wide, "player further").staffs["s"]), 12)

    def test_holds_of_a_player(self):
        head = ["player ann", "player bob", "instrument flute 0 0 0"] + ["bar 4/4 0"] * 30
        rows = head + ["holds ann " + str(bar) + " flute" for bar in range(20)]
        self.assertEqual(len(self.reached(rows, "holds ann 20 flute").holds["ann"]), 20)
        self.reached(rows, "holds ann 19 flute", "twice")
        self.reached(rows, "holds ann 20 horn", "name")
        self.reached(rows, "holds ann 30 flute", "bar")
        others = rows + ["holds bob " + str(bar) + " flute" for bar in range(20)]
        self.assertEqual(len(self.reached(others, "holds bob 25 flute").holds["bob"]), 20)

    def test_items_of_a_bar(self):
        for bar in (0, 2):
            head = "notes " + str(bar) + " ann "
            score = self.fine(head + " ".join(["0:0:1/40"] * 40), "notes " + str(bar) + " bob" + " 0:0:1/40" * 40)
            self.assertEqual(len(score.notes[(bar, "ann")]), 40)
            self.fault("many", head + " ".join(["0:0:1/41"] * 41))
            self.fault("many", head + " ".join(["0:0:1/41"] + ["r:1/41"] * 40))
            self.fault("length", head + " ".join(["0:0:1/40"] * 41))

    def test_repeats(self):
        rows = ["bar 4/4 0"] * 30 + ["repeat " + str(bar) + " " + str(bar) + " 2" for bar in range(20)]
        self.assertEqual(len(self.reached(rows, "repeat 20 20 2").repeats), 20)
        self.reached(rows, "repeat 19 20 2", "form")
        self.reached(rows, "repeat 20 30 2", "bar")
        self.reached(rows, "repeat 20 20 10", "row")
        self.reached(rows + ["jump 29 0 29 end"], "repeat 20 20 2", "form")

    def test_a_score_that_reaches_all_bounds(self):
        rows = ["player " + name for name in self.names(12)]
        rows.extend(["instrument " + name + " -12 -48 9999/9998" for name in self.names(12)])
        rows.extend(["staff " + name + " " + name for name in self.names(12)])
        rows.extend(["bar 32/32 -7 " + " ".join(["abcdefghijkl"] * 75)] * 200)
        rows.append("upbeat 40/41")
        for name in self.names(12):
            rows.extend(["holds " + name + " " + str(bar) + " n0" for bar in range(180, 200)])
            rows.append("notes 0 " + name + " -99:-93:1/41" * 40)
            rows.extend(["notes " + str(bar) + " " + name + " -99:-93:1/40" * 40 for bar in range(1, 200)])
        rows.extend(["repeat " + str(9 * bar) + " " + str(9 * bar + 8) + " 9 "
                     + " ".join([str(9 * bar + end) + ":" + str(end + 1) for end in range(9)]) for bar in range(20)])
        rows.append("jump 199 0 188 end")
        rows.extend([""] * (3000 - len(rows)))
        self.assertEqual(max([len(row) for row in rows]) <= 1000, True)
        score = read_score("\n".join(rows))
        self.assertEqual([len(score.players), len(score.instruments), len(score.staffs), len(score.bars),
                          len(score.holds), len(score.notes), len(score.repeats)], [12, 12, 12, 200, 12, 2400, 20])

    def test_rows_and_signs_are_not_counted(self):
        text = "\n" * 3100 + "player" + " " * 1100 + "ann"
        self.assertEqual(read_score(text).players, ["ann"])


if __name__ == "__main__":
    unittest.main()
