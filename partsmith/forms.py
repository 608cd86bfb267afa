"""The forms of a score's rows (point 6), and how repeats and a jump may stand (point 8)."""

from partsmith.errors import NoLength
from partsmith.lengths import read_length
from partsmith.pitches import HIGHEST_KEY, read_item, read_item_length, read_pitch
from partsmith.words import read_number, read_signed

NAME_SIGNS = "abcdefghijklmnopqrstuvwxyz0123456789"
LONGEST_NAME = 12
NUMBER_FIGURES = 3
HIGHEST_TURN = 12
HIGHEST_METRE = 32
METRE_BOTTOMS = (1, 2, 4, 8, 16, 32)
FEWEST_TIMES = 2
MOST_TIMES = 9


def words_of(row):
    """The words of a row; blanks at its ends and more than one between words count for nothing."""
    return [word for word in row.split(" ") if word != ""]


def all_read(values):
    """The values, None where one of them could not be read."""
    if any([value is None for value in values]):
        return None
    return values


def read_name(word):
    """The name, None where the word is none."""
    if len(word) < 1 or len(word) > LONGEST_NAME:
        return None
    if not all([sign in NAME_SIGNS for sign in word]):
        return None
    return word


def read_plain(word):
    """A number N of point 6, None where the word is none."""
    return read_number(word, NUMBER_FIGURES)


def read_within(word, lowest, highest):
    """A number N from the lowest to the highest, None where the word is none."""
    number = read_plain(word)
    if number is None or number < lowest or number > highest:
        return None
    return number


def read_time(word):
    """A length, maybe 0, None where the word is none."""
    try:
        return read_length(word)
    except NoLength:
        return None


def read_turn(fifths_word, steps_word):
    """A turn, None where the words are none."""
    turn = read_pitch(fifths_word, steps_word)
    if turn is None or abs(turn[0]) > HIGHEST_TURN:
        return None
    return turn


def read_metre(word):
    """A metre as it is told, not in lowest terms; None where the word is none."""
    parts = word.split("/")
    if len(parts) != 2:
        return None
    top = read_within(parts[0], 1, HIGHEST_METRE)
    bottom = read_plain(parts[1])
    if top is None or bottom not in METRE_BOTTOMS:
        return None
    return (top, bottom)


def read_key(word):
    """A key, None where the word is none."""
    key = read_signed(word, NUMBER_FIGURES)
    if key is None or abs(key) > HIGHEST_KEY:
        return None
    return key


def read_end(word):
    """An end of a repeat as a pair (bar, passes), None where the word is none."""
    parts = word.split(":")
    if len(parts) != 2:
        return None
    bar = read_plain(parts[0])
    passes = all_read([read_plain(part) for part in parts[1].split(",")])
    if bar is None or passes is None:
        return None
    return (bar, tuple(passes))


# Each of the following is handed the words behind the first one and gives what
# they tell, or None where they are not of the row's form.

def read_player(words):
    """The player's name."""
    if len(words) != 1:
        return None
    return read_name(words[0])


def read_instrument(words):
    """A triple: the instrument's name, its turn and the time that a change to it takes."""
    if len(words) != 4:
        return None
    return all_read((read_name(words[0]), read_turn(words[1], words[2]), read_time(words[3])))


def read_staff(words):
    """A pair: the staff's name and its players, a tuple."""
    if len(words) < 2:
        return None
    names = all_read([read_name(word) for word in words])
    if names is None:
        return None
    return (names[0], tuple(names[1:]))


def read_bar(words):
    """A triple: metre, key and marks, a tuple."""
    if len(words) < 2:
        return None
    marks = all_read([read_name(word) for word in words[2:]])
    if marks is None:
        return None
    return all_read((read_metre(words[0]), read_key(words[1]), tuple(marks)))


def read_upbeat(words):
    """The upbeat's length."""
    if len(words) != 1:
        return None
    return read_item_length(words[0])


def read_hold(words):
    """A triple: player, bar and instrument."""
    if len(words) != 3:
        return None
    return all_read((read_name(words[0]), read_plain(words[1]), read_name(words[2])))


def read_notes(words):
    """A triple: bar, player and items, a list."""
    if len(words) < 3:
        return None
    items = all_read([read_item(word) for word in words[2:]])
    if items is None or all([item[0] is None for item in items]):
        return None
    return all_read((read_plain(words[0]), read_name(words[1]), items))


def read_repeat(words):
    """Four: first bar, last bar, times and ends, a tuple."""
    if len(words) < 3:
        return None
    times = read_within(words[2], FEWEST_TIMES, MOST_TIMES)
    ends = all_read([read_end(word) for word in words[3:]])
    if ends is None:
        return None
    return all_read((read_plain(words[0]), read_plain(words[1]), times, tuple(ends)))


def read_jump(words):
    """Four: at, to, until and coda, None in the place of a coda where the playing ends."""
    if len(words) != 4:
        return None
    stops = all_read([read_plain(word) for word in words[:3]])
    coda = read_plain(words[3])
    if stops is None or (coda is None and words[3] != "end"):
        return None
    return (stops[0], stops[1], stops[2], coda)


READERS = {
    "player": read_player,
    "instrument": read_instrument,
    "staff": read_staff,
    "bar": read_bar,
    "upbeat": read_upbeat,
    "holds": read_hold,
    "notes": read_notes,
    "repeat": read_repeat,
    "jump": read_jump,
}


def is_score_word(word):
    """Whether rows that begin with the word are a score's."""
    return word in READERS


def read_row(words):
    """What a row of these words, one at least, tells; None where it has none of the forms."""
    if not is_score_word(words[0]):
        return None
    reader = READERS[words[0]]
    return reader(words[1:])


def ends_of(repeat):
    """The ends of a repeat as triples: first bar, last bar and passes."""
    ends = repeat[3]
    behind = [end[0] for end in ends[1:]] + [repeat[1] + 1]
    return [(end[0], after - 1, end[1]) for end, after in zip(ends, behind)]


def ends_fit(repeat):
    """Whether the ends lie in the stretch in order, and each pass has just one of them."""
    ends = repeat[3]
    if len(ends) == 0:
        return True
    ahead = repeat[0] - 1
    passes = []
    for end in ends:
        if end[0] <= ahead or list(end[1]) != sorted(end[1]):
            return False
        ahead = end[0]
        passes.extend(end[1])
    return ahead <= repeat[1] and sorted(passes) == list(range(1, repeat[2] + 1))


def repeat_fits(repeats, repeat):
    """Whether the repeat may be told behind these."""
    if len(repeats) > 0 and repeat[0] <= repeats[-1][1]:
        return False
    return repeat[0] <= repeat[1] and ends_fit(repeat)


def repeat_round(repeats, bar):
    """The repeat in whose stretch the bar lies, None where it lies outside of all."""
    for repeat in repeats:
        if repeat[0] <= bar and bar <= repeat[1]:
            return repeat
    return None


def may_leave(repeats, bar):
    """Whether the bar lies outside of all repeats or is the last one of its stretch."""
    repeat = repeat_round(repeats, bar)
    return repeat is None or bar == repeat[1]


def may_enter(repeats, bar):
    """Whether the bar lies outside of all repeats or is the first one of its stretch."""
    repeat = repeat_round(repeats, bar)
    return repeat is None or bar == repeat[0]


def in_last_pass(repeats, bar):
    """Whether the bar lies outside of all ends or in one that has its repeat's last pass."""
    for repeat in repeats:
        for end in ends_of(repeat):
            if end[0] <= bar and bar <= end[1] and repeat[2] not in end[2]:
                return False
    return True


def coda_fits(repeats, at, coda):
    """Whether the bar may be the coda of a jump from at."""
    return at < coda and may_enter(repeats, coda) and in_last_pass(repeats, coda)


def jump_fits(repeats, jump):
    """Whether the jump may stand in a score with these repeats."""
    at = jump[0]
    to = jump[1]
    until = jump[2]
    coda = jump[3]
    if until < to or at < until:
        return False
    if coda is not None and not coda_fits(repeats, at, coda):
        return False
    return may_leave(repeats, at) and may_enter(repeats, to) and in_last_pass(repeats, until)
