"""A part cut into pages that are turned where the player rests long enough: points 19 and 20."""

from partsmith.lengths import added, less, shorter
from partsmith.playing import check_player
from partsmith.scores import told_length

REST_WIDTH = 2


def width_of(row):
    """The width of a part's row."""
    if row[0] == "rest":
        return REST_WIDTH
    width = 1 + len(row[2])
    if row[3] is not None:
        width = width + len(row[3][1])
    return width


def bar_times(score):
    """The times at which the bars begin, by the bars in their order."""
    times = []
    time = (0, 1)
    for bar in range(len(score.bars)):
        times.append(time)
        time = added(time, told_length(score, bar))
    return times


def note_times(row, time):
    """The beginnings and ends of the notes, pairs, of a row that begins at this time."""
    if row[0] == "rest":
        return []
    notes = []
    for item in row[2]:
        behind = added(time, item[1])
        if item[0] is not None:
            notes.append((time, behind))
        time = behind
    return notes


def notes_by_row(score, part):
    """For each row of the part the beginnings and ends of its notes."""
    times = bar_times(score)
    return [note_times(row, times[row[1]]) for row in part]


def gap_within(notes, row):
    """The time between the last note ahead of the row and the first one from it on, None where one is lacking."""
    ahead = [some for some in notes[:row] if len(some) > 0]
    behind = [some for some in notes[row:] if len(some) > 0]
    if len(ahead) == 0 or len(behind) == 0:
        return None
    last = ahead[-1][-1]
    first = behind[0][0]
    return less(first[0], last[1])


def gap_ahead(score, player, part, row):
    """The time that the player rests round a turn ahead of the row, None where no note ends or none follows."""
    check_player(score, player)
    return gap_within(notes_by_row(score, part), row)


def free_turns(score, part, time):
    """The rows but the first ahead of which a turn is free, with so much time for it."""
    notes = notes_by_row(score, part)
    free = []
    for row in range(1, len(part)):
        gap = gap_within(notes, row)
        if gap is None or not shorter(gap, time):
            free.append(row)
    return free


def first_too_wide(part, start, room):
    """The first row such that those from the start to it are wider than the room, the count of rows where none is."""
    width = 0
    row = start
    while row < len(part):
        width = width + width_of(part[row])
        if width > room:
            return row
        row = row + 1
    return row


def pages_of(score, player, part, room, time):
    """The rows with which the pages begin, ("pages", starts), or what bars them, ("barred", row, wide)."""
    check_player(score, player)
    if len(part) == 0:
        return ("pages", [])
    free = free_turns(score, part, time)
    starts = [0]
    wide = first_too_wide(part, 0, room)
    while wide < len(part):
        start = starts[-1]
        turns = [row for row in free if start < row and row <= wide]
        if len(turns) == 0:
            return ("barred", start, wide)
        # Whatever can be reached from an earlier row can be reached from a
        # later one too, so the last turn leads furthest, and with fewest pages.
        starts.append(turns[-1])
        wide = first_too_wide(part, turns[-1], room)
    return ("pages", starts)
