"""The forms of the deeds in a desk's text: point 21."""

from partsmith.changing import has_note
from partsmith.forms import all_read, read_name, read_plain, read_time
from partsmith.pitches import read_item


def read_quiet(word):
    """A number of quiet bars, 1 or more, None where the word is none."""
    number = read_plain(word)
    if number == 0:
        return None
    return number


# Each of the following is handed the words behind the first one of a deed and
# gives what they tell, or None where they are not of the deed's form.

def read_play(words):
    """Nothing."""
    if len(words) != 0:
        return None
    return ()


def read_part(words):
    """A pair: player and quiet bars."""
    if len(words) != 2:
        return None
    return all_read((read_name(words[0]), read_quiet(words[1])))


def read_late(words):
    """A player alone."""
    if len(words) != 1:
        return None
    return all_read((read_name(words[0]),))


def read_shared(words):
    """A pair: staff and bar."""
    if len(words) != 2:
        return None
    return all_read((read_name(words[0]), read_plain(words[1])))


def read_pages(words):
    """Four: player, quiet bars, room and time."""
    if len(words) != 4:
        return None
    return all_read((read_name(words[0]), read_quiet(words[1]), read_plain(words[2]), read_time(words[3])))


def read_put(words):
    """A triple: bar, player and items, a list, maybe empty."""
    if len(words) < 2:
        return None
    items = all_read([read_item(word) for word in words[2:]])
    if items is None or (len(items) > 0 and not has_note(items)):
        return None
    return all_read((read_plain(words[0]), read_name(words[1]), items))


DEED_READERS = {
    "play": read_play,
    "part": read_part,
    "late": read_late,
    "shared": read_shared,
    "pages": read_pages,
    "put": read_put,
}


def read_deed(words):
    """What a deed of these words, one at least, tells; None where it has none of the forms."""
    if words[0] not in DEED_READERS:
        return None
    reader = DEED_READERS[words[0]]
    return reader(words[1:])
