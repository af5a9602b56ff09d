"""What can be thrown away behind a story (point 26)."""

from onelife.checks import check_setting
from onelife.stories import World, lived


def lasting_notes(machine, marks, table, story):
    """The notes on the shelf behind a story that fit the wheel or have a greater count, in their order."""
    world = _world_behind(machine, marks, table, story)
    return tuple([note for note in world.notes if world.fits(note) or note[0] > world.reading[0]])


def idle_parts(machine, marks, table, story):
    """The pairs of the indexes of the first and the last step of all idle stretches of a story, ascending."""
    _world_behind(machine, marks, table, story)
    return tuple(idle_stretches(machine, table, story))


def without_idle(machine, marks, table, story):
    """A story without its idle stretches."""
    _world_behind(machine, marks, table, story)
    kept = []
    after = 0
    for first, last in idle_stretches(machine, table, story):
        kept.extend(story[after:first])
        after = last + 1
    return tuple(kept) + story[after:]


def new_words(machine, marks, table, story):
    """The unlike pairs (number, word) that were heard, in the order in which each came first."""
    world = _world_behind(machine, marks, table, story)
    return tuple({pair: True for pair in world.sayings})


def unspoken(machine, marks, table, story):
    """The unlike lives of the notes that fit the wheel which have not spoken, in the order of the shelf."""
    world = _world_behind(machine, marks, table, story)
    silent = {life: True for count, mark, life, _ in world.notes
              if (count, mark) == world.reading and life not in world.speakers}
    return tuple(silent)


def _world_behind(machine, marks, table, story):
    check_setting(machine, marks, table)
    return lived(machine, table, story)


def idle_stretches(machine, table, story):
    """The idle stretches of a story whose steps can be done, each as the indexes of its first and its last step."""
    world = World(machine, table)
    found = []
    first, before = 0, None
    for index, step in enumerate(story):
        if step[0] == "boot":
            first, before = index, kept_in(world)
        world.do_step(step)
        if step[0] == "cut" and kept_in(world) == before:
            found.append((first, index))
    return found


def kept_in(world):
    """What tells whether wheel, shelf and spoken are the same at two moments of a story."""
    # Notes and lives that have spoken only grow more, so that they are the same if they are as many.
    return world.reading, len(world.notes), len(world.speakers)
