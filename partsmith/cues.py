"""Entries behind quiet bars, and the cues ahead of them: point 13."""

from partsmith.playing import check_player


def is_empty(score, player, bar):
    """Whether no notes of the player are told in the bar."""
    return (bar, player) not in score.notes


def playing_in(score, bar):
    """The players that have notes in the bar, in the score's order."""
    return [player for player in score.players if not is_empty(score, player, bar)]


def cue_among(score, silent):
    """The cue for a player that is silent in these bars, None where nobody plays in them."""
    for bar in reversed(silent):
        others = playing_in(score, bar)
        if len(others) > 0:
            return (bar, others[0])
    return None


def entries(score, player, quiet):
    """A player's entries behind so many quiet bars or more: pairs of the bar and its cue, a pair of bar and player."""
    check_player(score, player)
    found = []
    silent = []
    for bar in range(len(score.bars)):
        if is_empty(score, player, bar):
            silent.append(bar)
        else:
            if len(silent) >= quiet:
                # All silent bars may bear the cue, not just as many as were asked with.
                found.append((bar, cue_among(score, silent)))
            silent = []
    return found
