"""A score written as a text that is read to a score of the same fields: point 9."""

from partsmith.lengths import length_text
from partsmith.pitches import item_text
from partsmith.words import number_text


def instrument_row(name, told):
    """The row of an instrument."""
    turn = told[0]
    return " ".join(["instrument", name, number_text(turn[0]), number_text(turn[1]), length_text(told[1])])


def bar_row(bar):
    """The row of a bar."""
    metre = number_text(bar[0][0]) + "/" + number_text(bar[0][1])
    return " ".join(["bar", metre, number_text(bar[1])] + list(bar[2]))


def hold_row(player, hold):
    """The row of a hold."""
    return " ".join(["holds", player, number_text(hold[0]), hold[1]])


def notes_row(place, items):
    """The row of a player's notes in a bar."""
    return " ".join(["notes", number_text(place[0]), place[1]] + [item_text(item) for item in items])


def end_text(end):
    """An end of a repeat as it is written."""
    return number_text(end[0]) + ":" + ",".join([number_text(number) for number in end[1]])


def repeat_row(repeat):
    """The row of a repeat."""
    numbers = [number_text(number) for number in repeat[:3]]
    return " ".join(["repeat"] + numbers + [end_text(end) for end in repeat[3]])


def jump_row(jump):
    """The row of a jump."""
    words = [number_text(bar) for bar in jump[:3]]
    words.append("end" if jump[3] is None else number_text(jump[3]))
    return " ".join(["jump"] + words)


def hold_rows(holds):
    """The rows of all holds, player by player."""
    rows = []
    for player in holds:
        rows.extend([hold_row(player, hold) for hold in holds[player]])
    return rows


def score_text(score):
    """The score as it is written."""
    rows = ["player " + player for player in score.players]
    rows.extend([instrument_row(name, told) for name, told in score.instruments.items()])
    rows.extend([" ".join(["staff", name] + list(players)) for name, players in score.staffs.items()])
    rows.extend([bar_row(bar) for bar in score.bars])
    if score.upbeat is not None:
        rows.append("upbeat " + length_text(score.upbeat))
    rows.extend(hold_rows(score.holds))
    rows.extend([notes_row(place, items) for place, items in score.notes.items()])
    rows.extend([repeat_row(repeat) for repeat in score.repeats])
    if score.jump is not None:
        rows.append(jump_row(score.jump))
    return "\n".join(rows)
