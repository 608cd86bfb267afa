"""Keys and pitches: point 4."""

import unittest

from partsmith.pitches import sounding, turned_key, written

KEYS = range(-7, 8)
TURN_FIFTHS = range(-12, 13)


def turn_of(fifths, octave=0):
    """A turn of so many fifths, its half steps near 0 but for the octaves."""
    return (fifths, 7 * fifths % 12 + 12 * octave)


class Keys(unittest.TestCase):
    def test_each_key_with_each_turn(self):
        for key in KEYS:
            for fifths in TURN_FIFTHS:
                told = turned_key(key, turn_of(fifths))
                plain = key + fifths
                shifts = [shift for shift in (0, -12, 12) if -7 <= plain + shift <= 7]
                # No respelling where none is needed, though -12 or 12 would do, too.
                self.assertEqual(told, (plain + shifts[0], shifts[0]), (key, fifths))

    def test_told_is_a_tuple(self):
        self.assertIs(type(turned_key(0, (0, 0))), tuple)

    def test_edges(self):
        self.assertEqual(turned_key(0, (0, 0)), (0, 0))
        self.assertEqual(turned_key(7, (0, 0)), (7, 0))
        self.assertEqual(turned_key(-7, (0, 0)), (-7, 0))
        self.assertEqual(turned_key(5, (2, 2)), (7, 0))
        self.assertEqual(turned_key(6, (2, 2)), (-4, -12))
        self.assertEqual(turned_key(-5, (-2, -2)), (-7, 0))
        self.assertEqual(turned_key(-6, (-2, -2)), (4, 12))
        self.assertEqual(turned_key(7, (12, 0)), (7, -12))
        self.assertEqual(turned_key(-7, (-12, 0)), (-7, 12))

    def test_the_half_steps_make_no_difference(self):
        for octave in (-8, -1, 0, 1, 7):
            self.assertEqual(turned_key(6, turn_of(2, octave)), (-4, -12))


class Turned(unittest.TestCase):
    def test_written_without_respelling(self):
        self.assertEqual(written((0, 0), 0, (2, 2)), (2, 2))
        self.assertEqual(written((-3, 3), -3, (3, -3)), (0, 0))
        self.assertEqual(written((4, 4), 0, (0, 12)), (4, 16))

    def test_written_with_respelling(self):
        self.assertEqual(written((6, 6), 6, (2, 2)), (-4, 8))
        self.assertEqual(written((-6, 6), -6, (-2, -2)), (4, 4))

    def test_sounding(self):
        self.assertEqual(sounding((2, 2), 0, (2, 2)), (0, 0))
        self.assertEqual(sounding((-4, 8), 6, (2, 2)), (6, 6))
        self.assertEqual(sounding((4, 4), -6, (-2, -2)), (-6, 6))

    def test_each_key_with_each_turn(self):
        pitches = ((0, 0), (-3, 3), (99, 93), (-99, -93), (-99, 99), (1, 7), (99, -99), (111, 201), (-500, 700))
        for pitch in pitches:
            self.assertEqual((pitch[1] - 7 * pitch[0]) % 12, 0)
        for key in KEYS:
            for fifths in TURN_FIFTHS:
                for octave in (-8, 0, 7):
                    self.check_pitches(pitches, key, turn_of(fifths, octave))

    def check_pitches(self, pitches, key, turn):
        shift = turned_key(key, turn)[1]
        for pitch in pitches:
            told = written(pitch, key, turn)
            self.assertIs(type(told), tuple)
            self.assertEqual(told, (pitch[0] + turn[0] + shift, pitch[1] + turn[1]))
            self.assertEqual((told[1] - 7 * told[0]) % 12, 0)
            back = sounding(told, key, turn)
            self.assertIs(type(back), tuple)
            self.assertEqual(back, pitch)
            self.assertEqual(written(sounding(pitch, key, turn), key, turn), pitch)

    def test_pitches_beyond_99(self):
        self.assertEqual(written((99, 93), 0, (7, 49)), (106, 142))
        self.assertEqual(sounding((106, 142), 0, (7, 49)), (99, 93))
        self.assertEqual(written((106, 142), 7, (1, 7)), (95, 149))
        self.assertEqual(sounding((-106, -142), 7, (1, 7)), (-95, -149))


if __name__ == "__main__":
    unittest.main()
