"""A score, and how it is read from its text: points 7 and 9."""

from partsmith.errors import BadScore
from partsmith.forms import jump_fits, read_row, repeat_fits, words_of
from partsmith.lengths import added, made_length, shorter

MOST_PLAYERS = 12
MOST_INSTRUMENTS = 12
MOST_BARS = 200
MOST_HOLDS = 20
MOST_ITEMS = 40
MOST_REPEATS = 20


class Score:
    """A score: at first one that tells nothing."""

    def __init__(self):
        self.players = []
        self.instruments = {}
        self.staffs = {}
        self.bars = []
        self.upbeat = None
        self.holds = {}
        self.notes = {}
        self.repeats = []
        self.jump = None


def metre_length(score, bar):
    """The length that the metre gives a bar of the score."""
    metre = score.bars[bar][0]
    return made_length(metre[0], metre[1])


def told_length(score, bar):
    """The length of a bar of the score."""
    if bar == 0 and score.upbeat is not None:
        return score.upbeat
    return metre_length(score, bar)


def items_length(items):
    """The lengths of the items together."""
    length = (0, 1)
    for item in items:
        length = added(length, item[1])
    return length


def has_bars(score, bars):
    """Whether the score has all these bars; the numbers of a row are never below 0."""
    return all([bar < len(score.bars) for bar in bars])


# Each of the following gives the word of the first fault that is due for what a
# row tells, None where there is none; "row" has been asked for ahead of them.

def player_fault(score, player):
    """The fault of a row "player"."""
    if player in score.players:
        return "twice"
    if len(score.players) >= MOST_PLAYERS:
        return "many"
    return None


def instrument_fault(score, told):
    """The fault of a row "instrument"."""
    if told[0] in score.instruments:
        return "twice"
    if len(score.instruments) >= MOST_INSTRUMENTS:
        return "many"
    return None


def staff_fault(score, told):
    """The fault of a row "staff"."""
    players = told[1]
    if told[0] in score.staffs or len(set(players)) < len(players):
        return "twice"
    for others in score.staffs.values():
        if any([player in others for player in players]):
            return "twice"
    if any([player not in score.players for player in players]):
        return "name"
    # There are never too many: each staff needs a player that stands in no
    # other one, so there are no more staffs than players.
    return None


def bar_fault(score, told):
    """The fault of a row "bar"."""
    if len(score.bars) >= MOST_BARS:
        return "many"
    return None


def upbeat_fault(score, length):
    """The fault of a row "upbeat"."""
    if score.upbeat is not None:
        return "twice"
    if len(score.bars) == 0:
        return "bar"
    if not shorter(length, metre_length(score, 0)):
        return "length"
    if any([place[0] == 0 for place in score.notes]):
        return "length"
    return None


def hold_fault(score, told):
    """The fault of a row "holds"."""
    bar = told[1]
    holds = score.holds.get(told[0], [])
    if len(holds) > 0 and bar <= holds[-1][0]:
        return "twice"
    if told[0] not in score.players or told[2] not in score.instruments:
        return "name"
    if not has_bars(score, [bar]):
        return "bar"
    if len(holds) >= MOST_HOLDS:
        return "many"
    return None


def notes_fault(score, told):
    """The fault of a row "notes"."""
    bar = told[0]
    player = told[1]
    items = told[2]
    if (bar, player) in score.notes:
        return "twice"
    if player not in score.players:
        return "name"
    if not has_bars(score, [bar]):
        return "bar"
    if items_length(items) != told_length(score, bar):
        return "length"
    if len(items) > MOST_ITEMS:
        return "many"
    return None


def repeat_fault(score, repeat):
    """The fault of a row "repeat"."""
    if not has_bars(score, [repeat[0], repeat[1]] + [end[0] for end in repeat[3]]):
        return "bar"
    # A jump was looked at among the repeats ahead of it, so none may follow.
    if score.jump is not None or not repeat_fits(score.repeats, repeat):
        return "form"
    if len(score.repeats) >= MOST_REPEATS:
        return "many"
    return None


def jump_fault(score, jump):
    """The fault of a row "jump"."""
    if score.jump is not None:
        return "twice"
    if not has_bars(score, [bar for bar in jump if bar is not None]):
        return "bar"
    if not jump_fits(score.repeats, jump):
        return "form"
    return None


FAULTS = {
    "player": player_fault,
    "instrument": instrument_fault,
    "staff": staff_fault,
    "bar": bar_fault,
    "upbeat": upbeat_fault,
    "holds": hold_fault,
    "notes": notes_fault,
    "repeat": repeat_fault,
    "jump": jump_fault,
}


def fault_of(score, sort, told):
    """The word of the first fault due for what a row of this sort tells, None where there is none."""
    if told is None:
        return "row"
    finder = FAULTS[sort]
    return finder(score, told)


def add_hold(score, told):
    """Adds a hold to those of its player."""
    if told[0] not in score.holds:
        score.holds[told[0]] = []
    score.holds[told[0]].append((told[1], told[2]))


def add_row(score, sort, told):
    """Adds what a row without a fault tells."""
    if sort == "player":
        score.players.append(told)
    elif sort == "instrument":
        score.instruments[told[0]] = (told[1], told[2])
    elif sort == "staff":
        score.staffs[told[0]] = told[1]
    elif sort == "bar":
        score.bars.append(told)
    elif sort == "upbeat":
        score.upbeat = told
    elif sort == "holds":
        add_hold(score, told)
    elif sort == "notes":
        score.notes[(told[0], told[1])] = told[2]
    elif sort == "repeat":
        score.repeats.append(told)
    else:
        score.jump = told


def read_score(text):
    """The score that the text tells."""
    score = Score()
    for place, row in enumerate(text.split("\n")):
        words = words_of(row)
        if len(words) > 0:
            told = read_row(words)
            word = fault_of(score, words[0], told)
            if word is not None:
                raise BadScore(place, word)
            add_row(score, words[0], told)
    return score
