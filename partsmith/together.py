"""A frame and parts put together to a score again (point 15), and a part played through (point 16)."""

from partsmith.errors import NoPlayer
from partsmith.pitches import sounding
from partsmith.playing import check_player, played, turn_at
from partsmith.scores import Score


def own_lists(told):
    """The dict of lists again, of lists of its own."""
    own = {}
    for name in told:
        own[name] = list(told[name])
    return own


def frame_of(score):
    """A score of the same fields, but without notes."""
    frame = Score()
    frame.players = list(score.players)
    frame.instruments = dict(score.instruments)
    frame.staffs = dict(score.staffs)
    frame.bars = list(score.bars)
    frame.upbeat = score.upbeat
    frame.holds = own_lists(score.holds)
    frame.repeats = list(score.repeats)
    frame.jump = score.jump
    return frame


def items_by_bar(part):
    """A dict from the bars to the items of those rows of the part that have some."""
    found = {}
    for row in part:
        if row[0] == "bar" and len(row[2]) > 0:
            found[row[1]] = row[2]
    return found


def sounding_item(item, key, turn):
    """The item that is written so under the key with the turn."""
    if item[0] is None:
        return item
    return (sounding(item[0], key, turn), item[1])


def sounding_bar(frame, player, bar, items):
    """The items of a bar that are written so for the player's instrument."""
    key = frame.bars[bar][1]
    turn = turn_at(frame, player, bar)
    return [sounding_item(item, key, turn) for item in items]


def put_together(frame, parts):
    """The score of this frame whose players have these parts, a dict."""
    score = frame_of(frame)
    told = {}
    for player in score.players:
        if player not in parts:
            raise NoPlayer("a player has no part")
        told[player] = items_by_bar(parts[player])
    for bar in range(len(score.bars)):
        for player in score.players:
            if bar in told[player]:
                score.notes[(bar, player)] = sounding_bar(score, player, bar, told[player][bar])
    return score


def played_part(frame, player, part):
    """A player's part played through: triples of the bar, the time at which it begins and the written items."""
    check_player(frame, player)
    told = items_by_bar(part)
    # A bar may be taken several times: each has a list of its own.
    return [(taken[0], taken[1], list(told.get(taken[0], []))) for taken in played(frame)]
