"""A score played through (points 10 and 11), and changes of instrument that come too late (point 12)."""

from partsmith.errors import NoBar, NoPlayer
from partsmith.forms import ends_of
from partsmith.lengths import added, less, shorter
from partsmith.scores import told_length


def check_player(score, player):
    """Refuses a name that is no player's."""
    if player not in score.players:
        raise NoPlayer("the score has no such player")


def check_bar(score, bar):
    """Refuses a number that is no bar's."""
    if bar < 0 or bar >= len(score.bars):
        raise NoBar("the score has no such bar")


def bar_length(score, bar):
    """The length of a bar: its metre's, or the upbeat's."""
    check_bar(score, bar)
    return told_length(score, bar)


def bars_of_pass(repeat, number):
    """The bars of one pass of a repeat."""
    ends = ends_of(repeat)
    if len(ends) == 0:
        return list(range(repeat[0], repeat[1] + 1))
    bars = list(range(repeat[0], ends[0][0]))
    for end in ends:
        if number in end[2]:
            bars.extend(list(range(end[0], end[1] + 1)))
    return bars


def bars_of_repeat(repeat, once):
    """The bars of all passes of a repeat, or of the last one alone."""
    times = repeat[2]
    if once:
        return bars_of_pass(repeat, times)
    bars = []
    for number in range(1, times + 1):
        bars.extend(bars_of_pass(repeat, number))
    return bars


def walked(score, first, last, once):
    """The bars from the first to the last as they are taken, each stretch just once or as often as it tells."""
    beginning = {}
    for repeat in score.repeats:
        beginning[repeat[0]] = repeat
    bars = []
    bar = first
    while bar <= last:
        if bar in beginning:
            repeat = beginning[bar]
            # The last bar may lie amid a stretch that is taken once.
            bars.extend([taken for taken in bars_of_repeat(repeat, once) if taken <= last])
            bar = repeat[1] + 1
        else:
            bars.append(bar)
            bar = bar + 1
    return bars


def taken_bars(score):
    """The bars as they are taken."""
    last = len(score.bars) - 1
    jump = score.jump
    if jump is None:
        return walked(score, 0, last, False)
    bars = walked(score, 0, jump[0], False) + walked(score, jump[1], jump[2], True)
    if jump[3] is not None:
        bars.extend(walked(score, jump[3], last, True))
    return bars


def played(score):
    """The bars as they are taken: triples of the bar, the time at which it begins and the how manieth time it is."""
    triples = []
    counts = {}
    time = (0, 1)
    for bar in taken_bars(score):
        counts[bar] = counts.get(bar, 0) + 1
        triples.append((bar, time, counts[bar]))
        time = added(time, told_length(score, bar))
    return triples


def instrument_at(score, player, bar):
    """The instrument that a player holds at a bar, None where there is none yet."""
    check_player(score, player)
    check_bar(score, bar)
    instrument = None
    for hold in score.holds.get(player, []):
        if hold[0] <= bar:
            instrument = hold[1]
    return instrument


def turn_at(score, player, bar):
    """The turn of the instrument that a player holds at a bar."""
    instrument = instrument_at(score, player, bar)
    if instrument is None:
        return (0, 0)
    return score.instruments[instrument][0]


def notes_played(score, player):
    """A player's notes as played: the place of the bar taken, the note's beginning, its end and the instrument."""
    notes = []
    for place, taken in enumerate(played(score)):
        time = taken[1]
        instrument = instrument_at(score, player, taken[0])
        for item in score.notes.get((taken[0], player), []):
            behind = added(time, item[1])
            if item[0] is not None:
                notes.append((place, time, behind, instrument))
            time = behind
    return notes


def late_changes(score, player):
    """A player's changes of instrument that are late: pairs of the place of the bar taken and the time between."""
    check_player(score, player)
    late = []
    notes = notes_played(score, player)
    for ahead, note in zip(notes, notes[1:]):
        instrument = note[3]
        if instrument is not None and instrument != ahead[3]:
            between = less(note[1], ahead[2])
            if shorter(between, score.instruments[instrument][1]):
                late.append((note[0], between))
    return late
