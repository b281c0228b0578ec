"""Histories that lead a simple rule astray: by them it breaks a bound."""

from healedwebs.basics import is_within
from healedwebs.errors import BadKind, BadNumber
from healedwebs.histories import History
from healedwebs.judged import Scene
from healedwebs.rules import check_rule, played_by
from healedwebs.webs import far_along, tied_by

BREAKS = ("more", "far", "parted", "changes")
MOST_GOAL = 40
LETTERS = "abcdefghijklmnopqrstuvwxyz"

# For each rule the kinds by which no history breaks it, however long it is.
NEVER = {"none": ("more", "changes"), "line": ("parted",), "ring": ("parted",),
         "star": ("far", "parted"), "least": ("far", "parted"), "all": ("far", "parted")}


def check_break(rule, kind, goal):
    """Raises the error for the first of these that is not as it is asked for."""
    check_rule(rule)
    if not isinstance(kind, str) or kind not in BREAKS:
        raise BadKind(kind)
    least, most = (0, 0) if kind == "parted" else (1, MOST_GOAL)
    if not is_within(goal, least, most):
        raise BadNumber(goal)


def breaker(rule, kind, goal):
    """A history that breaks the rule by this kind and goal; None if there is none."""
    check_break(rule, kind, goal)
    if kind in NEVER[rule]:
        return None
    if rule == "none" and kind == "far":
        return long_way(2 * goal + 1)
    if rule in ("line", "ring") and kind != "far":
        return busy_middle(goal + 2)
    # By "ring" the way around is but half as long as that by "line".
    return eaten_star(4 * goal + 2 if rule == "ring" else 2 * goal + 2)


def shows_breaker(rule, kind, goal, value):
    """Whether any value is what breaker may return."""
    check_break(rule, kind, goal)
    if kind in NEVER[rule]:
        return value is None
    return isinstance(value, History) and breaks(rule, kind, goal, value)


def breaks(rule, kind, goal, history):
    """Whether a history breaks the rule by this kind and goal."""
    scene = Scene()
    ahead = ()
    for deed, row in zip(history.deeds, played_by(rule, history)):
        scene.go_on(deed)
        if may_break(rule, kind, deed) and has_broken(kind, goal, scene, deed, ahead, row):
            return True
        ahead = row
    return False


def may_break(rule, kind, deed):
    """Whether behind this deed something may come about that had not come about ahead of it."""
    # The ties of a coming are elder ties too, so they make nothing worse. But by
    # "none" they may join, along a long way, those whom the dead had joined.
    if deed[0] == "come":
        return rule == "none" and kind == "far" and len(deed[2]) > 1
    return True


def has_broken(kind, goal, scene, deed, ahead, row):
    """Whether what the kind and the goal tell has come about behind a deed."""
    if kind == "changes":
        left = len([tie for tie in ahead if deed[1] not in tie])
        return len(row) - left > goal * scene.elder[deed[1]]
    tied = tied_by(scene.living, row)
    if kind == "more":
        return any([len(tied[name]) - scene.elder[name] > goal for name in scene.living])
    if kind == "far":
        return any([is_farther(far_along(tied, name), scene.far[name], goal) for name in scene.living])
    return any([is_parted(far_along(tied, name), scene.far[name], scene.living) for name in scene.living])


def is_farther(found, told, goal):
    """Whether one of those found is more than goal times as far as is told of it."""
    return any([found[name] > goal * told[name] for name in found])


def is_parted(found, told, living):
    """Whether a living place is told of and not found."""
    return any([name in told and name not in found for name in living])


def name_of(number):
    """Names that ascend with their numbers, for all numbers below 676."""
    return LETTERS[number // 26] + LETTERS[number % 26]


def coming(number, others):
    """The line of a coming, for numbers of places in the place of their names."""
    return " ".join(["come", name_of(number), *[name_of(other) for other in sorted(others)]])


def eaten_star(ends):
    """A star whose middle dies, and then its first end."""
    lines = [coming(ends, [])]
    for number in range(ends):
        lines.append(coming(number, [ends]))
    lines.append("die " + name_of(ends))
    lines.append("die " + name_of(0))
    return History("\n".join(lines))


def long_way(many):
    """Two places, so many ties apart, have a place between them as well, which dies."""
    lines = [coming(0, [])]
    for number in range(1, many + 1):
        lines.append(coming(number, [number - 1]))
    lines.append(coming(many + 1, [0, many]))
    lines.append("die " + name_of(many + 1))
    return History("\n".join(lines))


def busy_middle(many):
    """A place with one elder tie that has so many ties, and one more, when it dies.

    To each who dies beside it two others are tied, a lower and a higher one. As
    it stands between them, it takes both for the one that dies; the next to die
    is the lower one. The higher ones fall: so a ring ties each of them to the
    very first of them alone, and hardly any of those beside it to one another.
    """
    dying = 2 * many + 1
    lines = [coming(many, []), coming(dying, [many])]
    deaths = []
    for number in range(many):
        lines.append(coming(number, [dying]))
        lines.append(coming(2 * many - number, [dying]))
        deaths.append("die " + name_of(dying))
        dying = number
    deaths.append("die " + name_of(many))
    return History("\n".join([*lines, *deaths]))
