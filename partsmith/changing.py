"""A bar of a player told anew, and what that changes in the parts: point 17."""

from partsmith.errors import BadScore
from partsmith.parts import part_of
from partsmith.playing import check_bar, check_player
from partsmith.scores import items_length, told_length
from partsmith.together import frame_of, own_lists


def has_note(items):
    """Whether a note is among the items."""
    return any([item[0] is not None for item in items])


def check_items(score, bar, items):
    """Refuses items that can't be those of the bar; no items at all leave it empty."""
    if len(items) > 0 and not (has_note(items) and items_length(items) == told_length(score, bar)):
        raise BadScore(bar, "length")


def with_bar(score, bar, player, items):
    """The score with a bar of a player told anew, left empty where there are no items."""
    check_player(score, player)
    check_bar(score, bar)
    check_items(score, bar, items)
    changed = frame_of(score)
    changed.notes = own_lists(score.notes)
    # What stands in a dict keeps its place there, and what is new comes last.
    if len(items) > 0:
        changed.notes[(bar, player)] = list(items)
    else:
        changed.notes.pop((bar, player), None)
    return changed


def count_alike(old, new):
    """How many rows at the beginning of both are alike."""
    count = 0
    for one, other in zip(old, new):
        if one != other:
            return count
        count = count + 1
    return count


def compared(old, new):
    """A triple: the new part, and how many rows at its beginning and then at its end are alike in the old one."""
    ahead = count_alike(old, new)
    old_left = old[ahead:]
    new_left = new[ahead:]
    behind = count_alike(list(reversed(old_left)), list(reversed(new_left)))
    return (new, ahead, behind)


def changed_parts(score, bar, player, items, quiet):
    """For each player the part behind the change, compared with that ahead of it."""
    changed = with_bar(score, bar, player, items)
    return [compared(part_of(score, name, quiet), part_of(changed, name, quiet)) for name in score.players]
