"""The bars ahead of which a rest ends since something is told there: points 14 and 1."""

import copy
import unittest

from partsmith.errors import NoPlayer
from partsmith.parts import breaks, part_of
from partsmith.scores import read_score

HEAD = ["player ann", "player bob", "instrument flute 0 0 0", "instrument horn 1 -5 1/2"]


def read_rows(*rows):
    return read_score("\n".join(HEAD + list(rows)))


def bars(count):
    return "\n".join(["bar 4/4 0"] * count)


class OneByOne(unittest.TestCase):
    def told(self, broken, *rows):
        """A player that never plays rests from each of the breaks to the next one."""
        score = read_rows(*rows)
        self.assertEqual(breaks(score, "ann"), broken)
        starts = [0] + broken
        ends = broken + [len(score.bars)]
        rests = [("rest", start, end - start) for start, end in zip(starts, ends)]
        self.assertEqual(part_of(score, "ann", 1), rests)

    def test_nothing(self):
        self.told([], bars(8))
        self.told([], bars(1))

    def test_a_metre(self):
        self.told([2, 3], bars(2), "bar 3/4 0", bars(2))
        self.told([2], bars(2), "bar 3/4 0", "bar 3/4 0")

    def test_a_metre_of_the_same_length(self):
        self.told([1, 3], bars(1), "bar 2/2 0", "bar 2/2 0", "bar 4/4 0")
        self.told([1], "bar 6/8 0", "bar 3/4 0")

    def test_a_key(self):
        self.told([2, 3, 5], bars(2), "bar 4/4 3", "bar 4/4 -3", "bar 4/4 -3", bars(1))

    def test_a_length_behind_an_upbeat(self):
        self.told([1], bars(4), "upbeat 1/4")
        self.told([1], bars(2), "upbeat 1/4")
        self.told([], bars(1), "upbeat 1/4")

    def test_a_metre_behind_an_upbeat_of_its_length(self):
        self.told([1], bars(1), "bar 1/4 0", "bar 1/4 0", "upbeat 1/4")

    def test_marks(self):
        self.told([1, 3, 4], bars(1), "bar 4/4 0 solo", bars(1), "bar 4/4 0 tutti", "bar 4/4 0 tutti slow", bars(1))

    def test_the_same_marks_again(self):
        self.told([1, 2], bars(1), "bar 4/4 0 solo", "bar 4/4 0 solo", bars(1))

    def test_holds(self):
        self.told([2, 4], bars(6), "holds ann 2 flute", "holds ann 4 horn")

    def test_a_hold_of_the_same_instrument(self):
        self.told([2, 4], bars(6), "holds ann 0 flute", "holds ann 2 flute", "holds ann 4 flute")

    def test_a_hold_of_another_player(self):
        self.told([], bars(6), "holds bob 2 flute", "holds bob 4 horn")
        self.told([3], bars(6), "holds bob 2 flute", "holds ann 3 flute", "holds bob 4 horn")

    def test_a_repeat(self):
        self.told([2, 4], bars(6), "repeat 2 3 2")
        self.told([2, 3], bars(6), "repeat 2 2 2")

    def test_repeats_side_by_side(self):
        self.told([1, 3, 5], bars(7), "repeat 1 2 2", "repeat 3 4 2")

    def test_ends(self):
        self.told([1, 3, 5, 7], bars(9), "repeat 1 6 2 3:1 5:2")
        self.told([1, 3, 4, 6, 7], bars(9), "repeat 1 6 3 3:2 4:1 6:3")

    def test_an_end_at_the_stretch_s_first_bar(self):
        self.told([1, 4, 6], bars(8), "repeat 1 5 2 1:1 4:2")

    def test_a_single_end(self):
        self.told([1, 3, 5], bars(7), "repeat 1 4 2 3:1,2")

    def test_a_repeat_at_the_score_s_ends(self):
        self.told([3], bars(6), "repeat 0 2 2")
        self.told([3], bars(6), "repeat 3 5 2")
        self.told([], bars(6), "repeat 0 5 2")
        self.told([2, 4], bars(6), "repeat 0 5 2 2:1 4:2")

    def test_a_jump(self):
        # to, the bar behind until, the bar behind at and coda, each by itself
        self.told([2, 4, 7, 9], bars(11), "jump 6 2 3 9")

    def test_a_jump_without_a_coda(self):
        self.told([2, 4, 7], bars(11), "jump 6 2 3 end")

    def test_a_jump_to_bar_0(self):
        self.told([4, 7], bars(11), "jump 6 0 3 end")
        self.told([1], bars(4), "jump 0 0 0 end")

    def test_a_jump_at_the_last_bar(self):
        self.told([2, 5], bars(8), "jump 7 2 4 end")
        self.told([2], bars(8), "jump 7 2 7 end")

    def test_a_coda_straight_behind_at(self):
        self.told([2, 4, 7], bars(11), "jump 6 2 3 7")

    def test_a_coda_at_the_last_bar(self):
        self.told([2, 4, 7, 10], bars(11), "jump 6 2 3 10")

    def test_bar_0_is_none(self):
        self.told([], "bar 3/8 5 solo", "bar 3/8 5", "bar 3/8 5", "holds ann 0 flute", "repeat 0 2 2")
        self.told([], "bar 3/8 5 solo", "holds ann 0 flute", "repeat 0 0 2 0:1,2", "jump 0 0 0 end")

    def test_several_at_one_bar(self):
        self.told([1, 2], bars(1), "bar 3/4 2 solo", "bar 3/4 2", "holds ann 1 flute", "repeat 0 0 2", "repeat 1 1 2 1:1,2",
                  "jump 0 0 0 1")

    def test_bar_199(self):
        self.told([199], bars(199), "bar 4/4 0 last", "repeat 0 198 2")

    def test_no_bars(self):
        score = read_rows()
        self.assertEqual(breaks(score, "ann"), [])


class Otherwise(unittest.TestCase):
    def test_notes_and_cues_are_none(self):
        score = read_rows(bars(6), "notes 2 ann 0:0:1", "notes 1 bob 0:0:1")
        self.assertEqual(breaks(score, "ann"), [])

    def test_told_at_a_bar_with_notes(self):
        score = read_rows(bars(2), "bar 4/4 1", "bar 4/4 1 solo", "notes 2 ann 0:0:1", "notes 3 ann 0:0:1")
        self.assertEqual(breaks(score, "ann"), [2, 3])

    def test_each_player_by_itself(self):
        score = read_rows(bars(6), "holds ann 2 flute", "holds bob 4 horn", "repeat 0 0 2")
        self.assertEqual(breaks(score, "ann"), [1, 2])
        self.assertEqual(breaks(score, "bob"), [1, 4])

    def test_names_that_are_no_player_s(self):
        for name in ("cid", "flute", "", "Ann", "ann ", "a\nb", "\u00e4", "x" * 5000):
            with self.assertRaises(NoPlayer):
                breaks(read_rows(bars(2)), name)
        with self.assertRaises(NoPlayer):
            breaks(read_score(""), "ann")

    def test_the_asker_s_own(self):
        score = read_rows(bars(6), "holds ann 2 flute", "repeat 0 3 2 1:1 2:2", "jump 4 0 3 5")
        ahead = copy.deepcopy(vars(score))
        told = breaks(score, "ann")
        self.assertEqual(told, [1, 2, 4, 5])
        self.assertEqual([type(told), type(told[0])], [list, int])
        told.clear()
        self.assertEqual(breaks(score, "ann"), [1, 2, 4, 5])
        self.assertEqual(vars(score), ahead)


if __name__ == "__main__":
    unittest.main()
