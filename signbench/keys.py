"""Keys read into sounds by a table, at once or one by one, and the fewest keys for sounds."""

from signbench.kinds import LAST_SOUND, is_row

LAST_KEY = 25
MOST_ROWS = 40


def is_table(thing):
    """Whether a thing is a table of keys."""
    if not isinstance(thing, list) or len(thing) > MOST_ROWS:
        return False
    if not all([is_table_row(row) for row in thing]):
        return False
    return len({row[0] for row in thing}) == len(thing)


def is_table_row(thing):
    """Whether a thing is a row (keys, sounds, left) of a table."""
    if not isinstance(thing, tuple) or len(thing) != 3:
        return False
    keys, sounds, left = thing
    if not is_row(keys, 1, 4, LAST_KEY) or not is_row(sounds, 0, 3, LAST_SOUND):
        return False
    return is_row(left, 0, len(keys) - 1, LAST_KEY)


def read_keys(table, keys):
    """The sounds that a list of keys makes, and the keys that are lost."""
    sounds = []
    lost = []
    rest = tuple(keys)
    while rest:
        told, gone, rest = read_step(table, rest)
        sounds.extend(told)
        lost.extend(gone)
    return (sounds, lost)


def read_step(table, keys):
    """One step of reading a tuple of keys: its sounds, its lost keys, what is still to be read."""
    row = longest_row(table, keys)
    if row is None:
        return ((), keys[:1], keys[1:])
    return (row[1], (), row[2] + keys[len(row[0]):])


def longest_row(table, keys):
    """The row with the most keys of those whose keys stand at the beginning; None where none does."""
    best = None
    for row in table:
        if keys[:len(row[0])] == row[0] and (best is None or len(row[0]) > len(best[0])):
            best = row
    return best


def press(table, waiting, key):
    """One key pressed behind those that wait: the sounds, the lost keys, what waits then."""
    sounds = []
    lost = []
    rest = waiting + (key,)
    while rest and not may_wait(table, rest):
        told, gone, rest = read_step(table, rest)
        sounds.extend(told)
        lost.extend(gone)
    return (sounds, lost, rest)


def may_wait(table, keys):
    """Whether the keys are the beginning of some longer row's keys."""
    return any([len(keys) < len(row[0]) and row[0][:len(keys)] == keys for row in table])


def end_keys(table, waiting):
    """The sounds that the waiting keys make when no more come, and the keys that are lost."""
    return read_keys(table, waiting)


def key_standings(table, sounds):
    """All (place, waiting, many) on the way to a list of sounds, sorted."""
    ways = ways_to(table, sounds)
    return sorted([(place, waiting, way[0]) for (place, waiting), way in ways.items()])


def fewest_keys(table, sounds):
    """The fewest keys that make just these sounds, of several the first; None where there are none."""
    ways = ways_to(table, sounds)
    # Standings come by fewest keys, those of like many by their first keys as
    # lists go: so the first end is the one that is asked for.
    for place, waiting in ways:
        made, lost = end_keys(table, waiting)
        if not lost and made == sounds[place:]:
            return keys_on_way(ways, (place, waiting))
    return None


def ways_to(table, sounds):
    """By each standing (place, waiting) its way (many, the standing ahead, the last key), nearest first."""
    start = (0, ())
    ways = {start: (0, None, None)}
    found = [start]
    # What a press does hangs on the waiting keys alone, so it is asked once for all places.
    presses = {}
    done = 0
    while done < len(found):
        standing = found[done]
        place, waiting = standing
        if waiting not in presses:
            presses[waiting] = presses_without_loss(table, waiting)
        for key, told, then in presses[waiting]:
            reached = (place + len(told), then)
            if reached not in ways and sounds[place:place + len(told)] == told:
                ways[reached] = (ways[standing][0] + 1, standing, key)
                found.append(reached)
        done += 1
    return ways


def presses_without_loss(table, waiting):
    """All (key, sounds, what waits then) of keys that, pressed, lose none; by rising keys."""
    found = []
    for key in range(LAST_KEY + 1):
        sounds, lost, then = press(table, waiting, key)
        if not lost:
            found.append((key, sounds, then))
    return found


def keys_on_way(ways, standing):
    """The keys by which a standing was reached."""
    keys = []
    many, ahead, key = ways[standing]
    while many > 0:
        keys.append(key)
        many, ahead, key = ways[ahead]
    keys.reverse()
    return keys
