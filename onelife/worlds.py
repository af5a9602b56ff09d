"""What the wheel, the shelf and the world are behind a story (points 5 and 6)."""

from onelife.checks import check_setting
from onelife.rows import are_along
from onelife.stories import lived
from onelife.walks import told_along


def _world_behind(machine, marks, table, story):
    check_setting(machine, marks, table)
    return lived(machine, table, story)


def wheel_after(machine, marks, table, story):
    """What the wheel reads behind a story."""
    return _world_behind(machine, marks, table, story).reading


def shelf_after(machine, marks, table, story):
    """The notes on the shelf behind a story, in the order in which they were first sealed."""
    return tuple(_world_behind(machine, marks, table, story).notes)


def heard(machine, marks, table, story):
    """The pairs (number, word) that were said in a story, in order, as often as they were."""
    return tuple(_world_behind(machine, marks, table, story).sayings)


def spoken(machine, marks, table, story):
    """The lives that have spoken in a story, in the order in which each first did."""
    return tuple(_world_behind(machine, marks, table, story).speakers)


def stands(machine, marks, table, story):
    """How the machine stands behind a story."""
    return _world_behind(machine, marks, table, story).standing


def is_dead(machine, marks, table, story):
    """Whether no note on the shelf has the count and mark that the wheel reads."""
    return _world_behind(machine, marks, table, story).is_lost()


def two_lives(machine, marks, table, story):
    """The first two lives that have spoken of which neither's telling begins the other's, None without any."""
    speakers = list(_world_behind(machine, marks, table, story).speakers)
    tellings = [told_along(machine, table, life) for life in speakers]
    for later, told in enumerate(tellings):
        for earlier in range(later):
            if not are_along(tellings[earlier], told):
                return speakers[earlier], speakers[later]
    return None
