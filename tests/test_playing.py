"""Bars' lengths, and a score played through: points 7, 10 and 11."""

import copy
import itertools
import unittest
from fractions import Fraction

from partsmith.errors import BadScore, NoBar
from partsmith.playing import bar_length, played
from partsmith.scores import read_score

BARS = 7
SETUPS = ((), ("1 2 2",), ("0 3 2",), ("0 6 2 3:1,2",), ("1 3 2 2:1 3:2",), ("1 3 2 2:2 3:1",), ("1 4 3 1:1,3 3:2",),
          ("1 4 3 1:2 2:1 4:3",), ("0 1 2", "2 3 2 2:1 3:2"), ("0 2 3 1:1,2 2:3", "3 5 2 3:2 4:1"),
          ("0 1 2 0:1 1:2", "4 5 2 4:1 5:2"), ("0 0 2 0:1,2", "2 2 9", "4 4 2 4:1,2"), ("2 6 4 3:2,4 5:1,3",),
          ("0 1 2 1:1,2", "3 4 2 3:2 4:1", "5 6 3 6:1,2,3"))
METRES = ("4/4", "3/4", "6/8", "5/16", "2/2", "1/32", "7/8")


def read_rows(rows, bars=BARS):
    head = ["bar " + METRES[bar % len(METRES)] + " 0" for bar in range(bars)]
    return read_score("\n".join(head + list(rows)))


def bars_of(score):
    return [taken[0] for taken in played(score)]


class Walker:
    """Goes through a score bar by bar, asking at each what comes next: another way than the program's own."""

    def __init__(self, score):
        self.score = score
        self.jumped = False
        self.number = 1

    def repeat_at(self, bar):
        for repeat in self.score.repeats:
            if repeat[0] <= bar <= repeat[1]:
                return repeat
        return None

    def start_of_end(self, repeat):
        for bar, passes in repeat[3]:
            if self.number in passes:
                return bar
        raise AssertionError("a pass without an end")

    def entered(self, bar):
        """The bar that is taken where this one is come to."""
        repeat = self.repeat_at(bar)
        if repeat is not None and bar == repeat[0]:
            self.number = repeat[2] if self.jumped else 1
            return self.again(repeat)
        return bar

    def again(self, repeat):
        if repeat[3] and repeat[3][0][0] == repeat[0]:
            return self.start_of_end(repeat)
        return repeat[0]

    def left(self, bar):
        """Where it goes on behind a bar that stands outside of all repeats, or behind a whole stretch."""
        jump = self.score.jump
        if jump is not None and not self.jumped and bar == jump[0]:
            self.jumped = True
            return self.entered(jump[1])
        if bar + 1 >= len(self.score.bars):
            return None
        return self.entered(bar + 1)

    def behind(self, bar):
        jump = self.score.jump
        if self.jumped and bar == jump[2]:
            return None if jump[3] is None else self.entered(jump[3])
        repeat = self.repeat_at(bar)
        if repeat is None:
            return self.left(bar)
        starts = [end[0] for end in repeat[3]]
        if starts and bar + 1 == starts[0]:
            return self.start_of_end(repeat)
        if bar != repeat[1] and bar + 1 not in starts:
            return bar + 1
        if self.jumped or self.number == repeat[2]:
            return self.left(repeat[1])
        self.number = self.number + 1
        return self.again(repeat)

    def bars(self):
        taken = []
        bar = self.entered(0) if self.score.bars else None
        while bar is not None:
            taken.append(bar)
            bar = self.behind(bar)
        return taken


class Lengths(unittest.TestCase):
    def test_of_metres(self):
        score = read_score("bar 4/4 0\nbar 6/8 0\nbar 3/4 0\nbar 32/1 0\nbar 1/32 0\nbar 12/8 -7 solo")
        self.assertEqual([bar_length(score, bar) for bar in range(6)], [(1, 1), (3, 4), (3, 4), (32, 1), (1, 32), (3, 2)])

    def test_of_an_upbeat(self):
        score = read_score("bar 4/4 0\nbar 4/4 0\nupbeat 2/8")
        self.assertEqual([bar_length(score, bar) for bar in range(2)], [(1, 4), (1, 1)])

    def test_kind(self):
        self.assertIs(type(bar_length(read_score("bar 4/4 0"), 0)), tuple)

    def test_bars_that_are_none(self):
        score = read_score("bar 4/4 0\nbar 4/4 0\nupbeat 1/4")
        for bar in (-1, -2, -3, 2, 3, 200, -(10 ** 5000), 10 ** 5000):
            with self.assertRaises(NoBar):
                bar_length(score, bar)
        for bar in (-1, 0, 1):
            with self.assertRaises(NoBar):
                bar_length(read_score(""), bar)


class Taken(unittest.TestCase):
    def taken(self, bars, *rows):
        self.assertEqual(bars_of(read_rows(rows)), bars)

    def test_one_behind_the_other(self):
        self.taken([0, 1, 2, 3, 4, 5, 6])
        self.assertEqual(bars_of(read_rows([], 1)), [0])

    def test_without_bars(self):
        self.assertEqual(played(read_score("")), [])
        self.assertEqual(played(read_score("player ann")), [])

    def test_repeats(self):
        self.taken([0, 1, 2, 1, 2, 3, 4, 5, 6], "repeat 1 2 2")
        self.taken([0, 0, 0, 1, 2, 3, 4, 5, 6, 5, 6], "repeat 0 0 3", "repeat 5 6 2")
        self.taken([0, 1, 0, 1, 2, 3, 2, 3, 2, 3, 4, 5, 6], "repeat 0 1 2", "repeat 2 3 3")

    def test_nine_times(self):
        self.taken([0, 1, 2, 3, 4] + [5] * 9 + [6], "repeat 5 5 9")

    def test_ends(self):
        self.taken([0, 1, 2, 1, 3, 4, 5, 6], "repeat 1 3 2 2:1 3:2")
        self.taken([0, 1, 3, 1, 2, 4, 5, 6], "repeat 1 3 2 2:2 3:1")
        self.taken([0, 1, 2, 3, 1, 2, 3, 4, 5, 6], "repeat 1 3 2 2:1,2")
        self.taken([0, 1, 2, 0, 1, 3, 4, 0, 1, 2, 5, 6], "repeat 0 4 3 2:1,3 3:2")

    def test_ends_from_the_first_bar_on(self):
        self.taken([0, 1, 2, 3, 4, 5, 6], "repeat 1 3 2 1:1 2:2")
        self.taken([0, 2, 3, 1, 4, 5, 6], "repeat 1 3 2 1:2 2:1")

    def test_an_end_that_closes_the_score(self):
        self.taken([0, 1, 2, 3, 4, 6, 3, 4, 5], "repeat 3 6 2 5:2 6:1")

    def test_a_jump_to_the_end(self):
        self.taken([0, 1, 2, 3, 4, 5, 6, 0, 1, 2], "jump 6 0 2 end")
        self.taken([0, 1, 2, 3, 2, 3], "jump 3 2 3 end")
        self.taken([0, 0], "jump 0 0 0 end")

    def test_a_jump_to_a_coda(self):
        self.taken([0, 1, 2, 3, 4, 1, 2, 5, 6], "jump 4 1 2 5")
        self.taken([0, 1, 2, 1, 2, 6], "jump 2 1 2 6")
        self.taken([0, 0, 1, 2, 3, 4, 5, 6], "jump 0 0 0 1")

    def test_stretches_behind_a_jump_are_taken_once(self):
        self.taken([0, 1, 1, 2, 3, 0, 1, 2, 4, 5, 6], "repeat 1 1 2", "repeat 5 6 3", "jump 3 0 2 4")
        self.taken([0, 1, 2, 1, 3, 4, 5, 6, 0, 1, 3, 4], "repeat 1 3 2 2:1 3:2", "jump 6 0 4 end")
        self.taken([0, 1, 3, 1, 2, 4, 5, 6, 1, 2, 4], "repeat 1 3 2 2:2 3:1", "jump 6 1 4 end")

    def test_at_the_last_bar_of_a_stretch(self):
        self.taken([0, 1, 2, 1, 2, 0, 1, 5, 6], "repeat 1 2 2", "jump 2 0 1 5")
        self.taken([0, 1, 2, 1, 3, 1, 3, 4, 5, 6], "repeat 1 3 2 2:1 3:2", "jump 3 1 3 4")
        # The last pass does not take bar 3 here, and still the stretch is taken wholly ahead of the jump.
        self.taken([0, 1, 3, 1, 2, 0, 1, 2], "repeat 1 3 2 2:2 3:1", "jump 3 0 2 end")

    def test_until_amid_a_stretch(self):
        self.taken([0, 1, 2, 3, 1, 2, 3, 4, 5, 0, 1, 2, 6], "repeat 1 3 2", "jump 5 0 2 6")
        self.taken([0, 1, 2, 1, 3, 4, 5, 0, 1, 3, 6], "repeat 1 4 2 2:1 3:2", "jump 5 0 3 6")

    def test_to_at_a_stretch_whose_last_pass_lacks_its_first_bar(self):
        self.taken([0, 1, 2, 1, 2], "repeat 0 1 2 0:1 1:2", "jump 2 0 2 end")

    def test_a_repeat_left_out_by_a_coda(self):
        self.taken([0, 1, 0, 5, 6], "repeat 3 4 2", "jump 1 0 0 5")
        self.taken([0, 1, 0, 1], "repeat 3 4 2", "jump 1 0 1 end")

    def test_a_bar_told_behind_the_jump(self):
        self.taken([0, 1, 2, 3, 4, 5, 6, 0, 7, 8], "bar 4/4 0", "jump 6 0 0 7", "bar 4/4 0")

    def test_all_jumps_among_several_repeats(self):
        count = 0
        for setup in SETUPS:
            rows = ["repeat " + one for one in setup]
            self.assertEqual(bars_of(read_rows(rows)), Walker(read_rows(rows)).bars())
            for jump in itertools.product(range(BARS), range(BARS), range(BARS), ("end",) + tuple(range(BARS))):
                row = "jump " + " ".join([str(word) for word in jump])
                try:
                    score = read_rows(rows + [row])
                except BadScore:
                    continue
                count = count + 1
                self.assertEqual(bars_of(score), Walker(score).bars(), (rows, row))
        self.assertEqual(count > 1000, True)


class Told(unittest.TestCase):
    def test_times(self):
        score = read_score("bar 4/4 0\nbar 6/8 0\nbar 1/2 0\nrepeat 0 1 2")
        self.assertEqual(played(score), [(0, (0, 1), 1), (1, (1, 1), 1), (0, (7, 4), 2), (1, (11, 4), 2), (2, (7, 2), 1)])

    def test_times_with_an_upbeat(self):
        score = read_score("bar 4/4 0\nbar 4/4 0\nupbeat 1/3\nrepeat 0 1 2")
        self.assertEqual(played(score), [(0, (0, 1), 1), (1, (1, 3), 1), (0, (4, 3), 2), (1, (5, 3), 2)])

    def test_the_how_manieth(self):
        score = read_score("bar 4/4 0\nbar 4/4 0\nbar 4/4 0\nrepeat 1 1 2\njump 1 0 1 2")
        self.assertEqual([(bar, number) for bar, time, number in played(score)],
                         [(0, 1), (1, 1), (1, 2), (0, 2), (1, 3), (2, 1)])

    def test_times_and_counts_among_several_repeats(self):
        for setup in SETUPS:
            for further in ([], ["jump 6 0 6 end"], ["upbeat 3/7"]):
                self.check(setup, further)

    def check(self, setup, further):
        rows = ["repeat " + one for one in setup] + further
        try:
            score = read_rows(rows)
        except BadScore:
            return
        time = Fraction(0)
        ahead = []
        for bar, begins, number in played(score):
            self.assertEqual(begins, (time.numerator, time.denominator))
            ahead.append(bar)
            self.assertEqual(number, ahead.count(bar))
            time = time + Fraction(*bar_length(score, bar))

    def test_kinds(self):
        told = played(read_score("bar 4/4 0\nrepeat 0 0 2"))
        self.assertIs(type(told), list)
        for triple in told:
            self.assertEqual([type(triple)] + [type(part) for part in triple], [tuple, int, tuple, int])

    def test_a_list_of_the_asker_s_own(self):
        score = read_rows(["repeat 1 3 2 2:1 3:2", "jump 6 0 4 end"])
        ahead = copy.deepcopy(vars(score))
        first = played(score)
        kept = list(first)
        second = played(score)
        self.assertIsNot(first, second)
        second.append("changed")
        self.assertEqual(first, kept)
        self.assertEqual(played(score), kept)
        self.assertEqual(vars(score), ahead)


if __name__ == "__main__":
    unittest.main()
