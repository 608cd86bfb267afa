"""Staffs that several players share: point 18."""

from partsmith.errors import NoStaff
from partsmith.playing import check_bar


def items_in(score, player, bar):
    """The player's items of a bar, none for an empty one."""
    return score.notes.get((bar, player), [])


def staff_bar(score, staff, bar):
    """A staff's bar: pairs of the players with like items, a tuple, and these items."""
    if staff not in score.staffs:
        raise NoStaff("the score has no such staff")
    check_bar(score, bar)
    players = score.staffs[staff]
    pairs = []
    for player in players:
        items = items_in(score, player, bar)
        alike = [other for other in players if items_in(score, other, bar) == items]
        if player == alike[0]:
            pairs.append((tuple(alike), list(items)))
    return pairs


def unstaffed(pairs):
    """The notes of a staff's players in a bar: a dict from players to items, without those that have none."""
    told = {}
    for players, items in pairs:
        if len(items) > 0:
            for player in players:
                told[player] = list(items)
    return told
