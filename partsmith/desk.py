"""A desk's text: a score's rows, and deeds that ask of the score or change it: points 21 and 22."""

from partsmith.changing import with_bar
from partsmith.deeds import read_deed
from partsmith.errors import BadDeed, BadScore, NoBar, NoPlayer, NoStaff
from partsmith.forms import is_score_word, words_of
from partsmith.lengths import length_text
from partsmith.pages import pages_of
from partsmith.parts import part_of
from partsmith.pitches import item_text
from partsmith.playing import late_changes, played
from partsmith.scores import read_score
from partsmith.staffs import staff_bar
from partsmith.words import number_text


def bar_number(score, bar):
    """A bar's number as players count: from 1, the upbeat left out."""
    if score.upbeat is None:
        return number_text(bar + 1)
    return number_text(bar)


def taken_text(score, taken):
    """A bar that is taken: its number and the how manieth time it is."""
    return bar_number(score, taken[0]) + "." + number_text(taken[2])


def items_text(items):
    """The items as they are written, parted by blanks."""
    return " ".join([item_text(item) for item in items])


def row_text(score, row):
    """A part's row as it is told."""
    head = bar_number(score, row[1]) + "="
    if row[0] == "rest":
        return head + "rest " + number_text(row[2])
    cue = row[3]
    if cue is None:
        return head + items_text(row[2])
    return head + "cue " + cue[0] + " " + items_text(cue[1])


def pair_text(pair):
    """Players of a staff with their items as they are told."""
    items = pair[1]
    return "+".join(pair[0]) + " " + (items_text(items) if len(items) > 0 else "rest")


# Each of the following gives the answer to a deed.

def play_answer(score, told):
    """The bars as they are taken."""
    return " ".join([taken_text(score, taken) for taken in played(score)])


def part_answer(score, told):
    """A player's part."""
    return " | ".join([row_text(score, row) for row in part_of(score, told[0], told[1])])


def late_answer(score, told):
    """A player's late changes."""
    bars = played(score)
    late = late_changes(score, told[0])
    return " ".join([taken_text(score, bars[change[0]]) + "@" + length_text(change[1]) for change in late])


def shared_answer(score, told):
    """A staff's bar."""
    return " | ".join([pair_text(pair) for pair in staff_bar(score, told[0], told[1])])


def pages_answer(score, told):
    """The pages of a player's part, or what bars them."""
    part = part_of(score, told[0], told[1])
    cut = pages_of(score, told[0], part, told[2], told[3])
    rows = cut[1] if cut[0] == "pages" else cut[1:]
    return " ".join([cut[0]] + [number_text(row) for row in rows])


ANSWERERS = {
    "play": play_answer,
    "part": part_answer,
    "late": late_answer,
    "shared": shared_answer,
    "pages": pages_answer,
}


def answer_of(score, sort, told):
    """The answer to a deed of this sort, but for a put, which has none."""
    answerer = ANSWERERS[sort]
    return answerer(score, told)


def is_score_row(row):
    """Whether the row is one of the score's."""
    words = words_of(row)
    return len(words) > 0 and is_score_word(words[0])


def is_deed(row):
    """Whether the row is a deed."""
    return len(words_of(row)) > 0 and not is_score_row(row)


def read_desk_score(rows):
    """The score that these rows tell among their deeds."""
    # Empty rows in the place of the deeds leave each row its number.
    return read_score("\n".join([row if is_score_row(row) else "" for row in rows]))


def do_deed(score, sort, told, texts):
    """Adds the answer to a deed, if it has one, to the texts, and gives the score as it is from now on."""
    if sort == "put":
        return with_bar(score, told[0], told[1], told[2])
    texts.append(answer_of(score, sort, told))
    return score


def try_deed(score, place, words, texts):
    """Does the deed of these words as do_deed does, or refuses it with its place."""
    told = read_deed(words)
    if told is None:
        raise BadDeed(place, "row")
    try:
        return do_deed(score, words[0], told, texts)
    except NoPlayer:
        raise BadDeed(place, "name") from None
    except NoStaff:
        raise BadDeed(place, "name") from None
    except NoBar:
        raise BadDeed(place, "bar") from None
    except BadScore:
        raise BadDeed(place, "length") from None


def answers(text):
    """The answers to the deeds of a desk's text, in their order."""
    rows = text.split("\n")
    score = read_desk_score(rows)
    texts = []
    for place, row in enumerate(rows):
        if is_deed(row):
            score = try_deed(score, place, words_of(row), texts)
    return texts
