"""How repeats, ends and jumps may stand: point 8."""

import itertools
import unittest

from partsmith.errors import BadScore
from partsmith.scores import read_score

BARS = 6
# Each setup is the repeats that a jump is told behind.
SETUPS = ((), ("1 2 2",), ("0 3 2",), ("0 5 2 3:1,2",), ("1 3 2 2:1 3:2",), ("1 3 2 2:2 3:1",), ("1 4 3 1:1,3 3:2",),
          ("1 4 3 1:2 2:1 4:3",), ("0 1 2", "2 3 2 2:1 3:2"), ("0 2 3 1:1,2 2:3", "3 5 2 3:2 4:1"),
          ("0 1 2 0:1 1:2", "4 5 2 4:1 5:2"), ("0 0 2 0:1,2", "2 2 9", "4 4 2 4:1,2"))


def read_rows(rows, bars=BARS):
    return read_score("\n".join(["bar 4/4 0"] * bars + list(rows)))


def words(numbers):
    return " ".join([str(number) for number in numbers])


def end_words(ends):
    return " ".join([str(bar) + ":" + ",".join([str(number) for number in passes]) for bar, passes in ends])


class Case(unittest.TestCase):
    def fine(self, *rows):
        return read_rows(rows)

    def broken(self, *rows):
        """The last row is refused for its form, the others are not."""
        read_rows(rows[:-1])
        with self.subTest(rows=rows):
            with self.assertRaises(BadScore) as taken:
                read_rows(rows)
            self.assertEqual((taken.exception.place, taken.exception.word), (BARS + len(rows) - 1, "form"))

    def held(self, stands, *rows):
        if stands:
            self.fine(*rows)
        else:
            self.broken(*rows)


class Stretches(Case):
    def test_first_not_behind_last(self):
        for first in range(BARS):
            for last in range(BARS):
                self.held(first <= last, "repeat " + words((first, last, 2)))

    def test_behind_the_one_ahead(self):
        for ahead in ((0, 0), (0, 2), (1, 2), (2, 2)):
            for first in range(BARS):
                for last in range(first, BARS):
                    self.held(first > ahead[1], "repeat " + words(ahead + (3,)), "repeat " + words((first, last, 2)))

    def test_three_in_order(self):
        self.fine("repeat 0 1 2", "repeat 2 2 3", "repeat 4 5 2")
        self.broken("repeat 0 1 2", "repeat 4 5 3", "repeat 2 3 2")


class Ends(Case):
    def test_one(self):
        for bar in range(BARS):
            self.held(1 <= bar <= 3, "repeat 1 3 2 " + str(bar) + ":1,2")

    def test_two(self):
        for one, other in itertools.product(range(BARS), repeat=2):
            self.held(1 <= one < other <= 4, "repeat 1 4 2 " + str(one) + ":1 " + str(other) + ":2")
            self.held(1 <= one < other <= 4, "repeat 1 4 2 " + str(one) + ":2 " + str(other) + ":1")

    def test_several(self):
        self.fine("repeat 0 4 4 0:1 1:2 3:3 4:4")
        self.fine("repeat 0 4 4 1:4 2:3 3:2 4:1")
        self.broken("repeat 0 4 4 0:1 1:2 1:3 4:4")
        self.broken("repeat 0 4 4 0:1 2:2 1:3 4:4")
        self.broken("repeat 0 4 4 1:1 2:2 3:3 5:4")

    def test_shared_passes(self):
        self.fine("repeat 0 4 5 2:1,3,5 3:2,4")
        self.fine("repeat 0 4 3 2:1,2,3")
        self.fine("repeat 0 4 9 2:1,2,3,4,5,6,7,8 4:9")

    def test_a_pass_left_out(self):
        for row in ("repeat 0 4 2 2:1", "repeat 0 4 2 2:2", "repeat 0 4 3 2:1 3:3", "repeat 0 4 3 2:1,2",
                    "repeat 0 4 4 2:1,4 3:2"):
            self.broken(row)

    def test_a_pass_twice(self):
        for row in ("repeat 0 4 2 2:1,1,2", "repeat 0 4 2 2:1,2 3:2", "repeat 0 4 2 2:1 3:1,2", "repeat 0 4 3 2:1,2 3:2,3",
                    "repeat 0 4 2 2:1,2,2"):
            self.broken(row)

    def test_a_pass_beyond_the_count(self):
        for row in ("repeat 0 4 2 2:1,2,3", "repeat 0 4 2 2:1,2 3:3", "repeat 0 4 2 2:1 3:3", "repeat 0 4 2 2:0,1,2",
                    "repeat 0 4 2 2:0,1 3:2", "repeat 0 4 2 2:1,2 3:0", "repeat 0 4 2 2:1,2,999"):
            self.broken(row)

    def test_passes_that_do_not_ascend(self):
        for row in ("repeat 0 4 2 2:2,1", "repeat 0 4 3 2:3,1 3:2", "repeat 0 4 3 2:2 3:3,1", "repeat 0 4 4 2:1,3,2 3:4"):
            self.broken(row)

    def test_all_small_ones(self):
        lists = [passes for count in (1, 2) for passes in itertools.product(range(4), repeat=count)]
        for times in (2, 3):
            for one, other in itertools.product(lists, repeat=2):
                ascending = all([list(passes) == sorted(set(passes)) for passes in (one, other)])
                just_one = sorted(one + other) == list(range(1, times + 1))
                self.held(ascending and just_one, "repeat 0 4 " + str(times) + " " + end_words(((1, one), (3, other))))


class Jumps(Case):
    def test_order(self):
        for at, to, until in itertools.product(range(BARS), repeat=3):
            self.held(to <= until <= at, "jump " + words((at, to, until)) + " end")
            for coda in range(BARS):
                self.held(to <= until <= at < coda, "jump " + words((at, to, until, coda)))

    def test_at(self):
        for at in range(BARS):
            self.held(at not in (1, 2), "repeat 1 3 2", "jump " + str(at) + " 0 0 end")
            self.held(at not in (1, 2), "repeat 1 3 2 2:1 3:2", "jump " + str(at) + " 0 0 end")
            self.held(at not in (1, 2, 4), "repeat 1 3 2 2:2 3:1", "repeat 4 5 2",
                      "jump " + str(at) + " 0 0 end")

    def test_to(self):
        for to in range(BARS):
            self.held(to not in (2, 3), "repeat 1 3 2", "jump 5 " + str(to) + " 5 end")
            self.held(to not in (2, 3), "repeat 1 3 2 1:1 3:2", "jump 5 " + str(to) + " 5 end")

    def test_until(self):
        for until in range(BARS):
            row = "jump 5 0 " + str(until) + " end"
            self.held(True, "repeat 1 3 2", row)
            self.held(until != 2, "repeat 1 3 2 2:1 3:2", row)
            self.held(until != 3, "repeat 1 3 2 2:2 3:1", row)
            self.held(until not in (1, 2), "repeat 1 3 3 1:1,2 3:3", row)
            self.held(until not in (2, 3), "repeat 1 3 3 1:1,3 2:2", row)
            self.held(True, "repeat 1 3 3 2:1,2,3", row)
            self.held(until not in (1, 3), "repeat 0 1 2 0:2 1:1", "repeat 2 4 2 3:1 4:2", row)

    def test_coda(self):
        for coda in range(1, BARS):
            row = "jump 0 0 0 " + str(coda)
            self.held(coda not in (3, 4), "repeat 2 4 2", row)
            self.held(coda not in (3, 4), "repeat 2 4 2 3:1 4:2", row)
            self.held(coda not in (3, 4), "repeat 2 4 2 2:2 4:1", row)
            self.held(coda not in (2, 3, 4), "repeat 2 4 2 2:1 4:2", row)
            self.held(coda not in (2, 4), "repeat 1 2 2", "repeat 3 4 2", row)

    def stands(self, repeats, at, to, until, coda):
        """Point 8 by sets of bars."""
        first = {repeat[0] for repeat in repeats}
        last = {repeat[1] for repeat in repeats}
        inside = {bar for repeat in repeats for bar in range(repeat[0], repeat[1] + 1)}
        lost = set()
        for begin, end, times, ends in repeats:
            starts = [bar for bar, passes in ends] + [end + 1]
            for place, (bar, passes) in enumerate(ends):
                if passes[-1] != times:
                    lost.update(range(bar, starts[place + 1]))
        outside = set(range(BARS)) - inside
        stands = to <= until <= at and at in outside | last and to in outside | first and until not in lost
        if coda is None:
            return stands
        return stands and at < coda and coda in outside | first and coda not in lost

    def test_all_among_several_repeats(self):
        counts = {True: 0, False: 0}
        for setup in SETUPS:
            rows = ["repeat " + one for one in setup]
            repeats = read_rows(rows).repeats
            for jump in itertools.product(range(BARS), range(BARS), range(BARS), (None,) + tuple(range(BARS))):
                stands = self.stands(repeats, *jump)
                counts[stands] = counts[stands] + 1
                row = "jump " + words(jump[:3]) + " " + ("end" if jump[3] is None else str(jump[3]))
                try:
                    read_rows(rows + [row])
                    found = True
                except BadScore as error:
                    self.assertEqual((error.place, error.word), (BARS + len(rows), "form"))
                    found = False
                self.assertEqual(found, stands, (rows, row))
        self.assertEqual(min(counts.values()) > 300, True)

    def test_bars_told_behind_a_jump(self):
        score = read_rows(["repeat 0 1 2", "jump 5 0 5 end", "bar 3/4 0", "player ann", "notes 6 ann 0:0:3/4"])
        self.assertEqual((len(score.bars), score.jump), (7, (5, 0, 5, None)))

    def test_a_repeat_behind_a_jump(self):
        self.broken("jump 1 0 1 end", "repeat 2 3 2")
        self.broken("repeat 0 1 2", "jump 1 0 1 end", "repeat 4 5 2")
        self.fine("repeat 0 1 2", "repeat 4 5 2", "jump 1 0 1 end")


if __name__ == "__main__":
    unittest.main()
