"""Pitches and keys turned for an instrument, and the items that bear pitches."""

from partsmith.errors import NoLength
from partsmith.lengths import length_text, read_length
from partsmith.words import number_text, read_signed

HIGHEST_KEY = 7
CIRCLE_FIFTHS = 12
OCTAVE_STEPS = 12
FIFTH_STEPS = 7
# Two figures reach just as far as a score's pitches: from -99 to 99.
PITCH_FIGURES = 2


def turned_key(key, turn):
    """A pair: the key turned, and the shift by which it is respelled."""
    turned = key + turn[0]
    shift = 0
    if turned > HIGHEST_KEY:
        shift = -CIRCLE_FIFTHS
    elif turned < -HIGHEST_KEY:
        shift = CIRCLE_FIFTHS
    return (turned + shift, shift)


def written(pitch, key, turn):
    """A pitch as it is written under the key with the turn."""
    shift = turned_key(key, turn)[1]
    return (pitch[0] + turn[0] + shift, pitch[1] + turn[1])


def sounding(pitch, key, turn):
    """The pitch that is written so under the key with the turn."""
    shift = turned_key(key, turn)[1]
    return (pitch[0] - turn[0] - shift, pitch[1] - turn[1])


def item_text(item):
    """The item as it is written."""
    pitch = item[0]
    length = length_text(item[1])
    if pitch is None:
        return "r:" + length
    return number_text(pitch[0]) + ":" + number_text(pitch[1]) + ":" + length


def read_pitch(fifths_text, steps_text):
    """A score's pitch, None where the texts are none."""
    fifths = read_signed(fifths_text, PITCH_FIGURES)
    steps = read_signed(steps_text, PITCH_FIGURES)
    if fifths is None or steps is None:
        return None
    if (steps - FIFTH_STEPS * fifths) % OCTAVE_STEPS != 0:
        return None
    return (fifths, steps)


def read_item_length(text):
    """A length above 0, None where the text is none."""
    try:
        length = read_length(text)
    except NoLength:
        return None
    if length[0] == 0:
        return None
    return length


def read_item(text):
    """The item that the text writes, None where it is none."""
    parts = text.split(":")
    length = read_item_length(parts[-1])
    if length is None:
        return None
    if len(parts) == 2 and parts[0] == "r":
        return (None, length)
    if len(parts) != 3:
        return None
    pitch = read_pitch(parts[0], parts[1])
    if pitch is None:
        return None
    return (pitch, length)
