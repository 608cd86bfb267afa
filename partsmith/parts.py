"""A player's part: the bars as they are written for its instrument, empty ones gathered to rests: point 14."""

from partsmith.cues import entries, is_empty
from partsmith.pitches import written
from partsmith.playing import check_player, turn_at
from partsmith.scores import told_length


def bar_tells(score, bar):
    """Whether a bar that has one ahead bears marks, or another metre, key or length than that one."""
    here = score.bars[bar]
    ahead = score.bars[bar - 1]
    if here[0] != ahead[0] or here[1] != ahead[1] or len(here[2]) > 0:
        return True
    # Behind an upbeat the metre may be the same.
    return told_length(score, bar) != told_length(score, bar - 1)


def bars_told_by_repeat(repeat):
    """The bars at which a repeat tells something; the last one may lie behind the score."""
    return [repeat[0], repeat[1] + 1] + [end[0] for end in repeat[3]]


def bars_told_by_jump(jump):
    """The bars at which a jump, maybe None, tells something; some may lie behind the score."""
    if jump is None:
        return []
    told = [jump[1], jump[0] + 1, jump[2] + 1]
    if jump[3] is not None:
        told.append(jump[3])
    return told


def breaks(score, player):
    """The bars, but for bar 0, ahead of which a rest of the player ends since something is told there."""
    check_player(score, player)
    told = [hold[0] for hold in score.holds.get(player, [])]
    told.extend(bars_told_by_jump(score.jump))
    for repeat in score.repeats:
        told.extend(bars_told_by_repeat(repeat))
    return [bar for bar in range(1, len(score.bars)) if bar in told or bar_tells(score, bar)]


def written_item(item, key, turn):
    """The item as it is written under the key with the turn."""
    if item[0] is None:
        return item
    return (written(item[0], key, turn), item[1])


def written_bar(score, player, bar, source):
    """The source's items of a bar as they are written for the player's instrument."""
    key = score.bars[bar][1]
    turn = turn_at(score, player, bar)
    return [written_item(item, key, turn) for item in score.notes[(bar, source)]]


def cued_players(score, player, quiet):
    """A dict from the bars that bear a cue for the player to those whose bars they are."""
    cued = {}
    for entry in entries(score, player, quiet):
        cue = entry[1]
        if cue is not None:
            cued[cue[0]] = cue[1]
    return cued


def add_rest(rows, bar, broken):
    """Adds an empty bar to the rest that stands last among the rows, or begins one with it."""
    if not broken and len(rows) > 0 and rows[-1][0] == "rest":
        rest = rows[-1]
        rows[-1] = ("rest", rest[1], rest[2] + 1)
    else:
        rows.append(("rest", bar, 1))


def part_of(score, player, quiet):
    """A player's part, with cues ahead of the entries behind so many quiet bars or more: a list of rows."""
    broken = breaks(score, player)
    cued = cued_players(score, player, quiet)
    rows = []
    for bar in range(len(score.bars)):
        if not is_empty(score, player, bar):
            rows.append(("bar", bar, written_bar(score, player, bar, player), None))
        elif bar in cued:
            other = cued[bar]
            rows.append(("bar", bar, [], (other, written_bar(score, player, bar, other))))
        else:
            add_rest(rows, bar, bar in broken)
    return rows
