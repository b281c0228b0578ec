"""Rules by words: which ties come among the neighbours of a place that dies."""

from healedwebs.basics import pair_of
from healedwebs.errors import BadRule
from healedwebs.webs import check_place, web_of

RULES = ("none", "line", "ring", "star", "least", "all")


def check_rule(value):
    """Raises BadRule for any value that is none of the words."""
    if not isinstance(value, str) or value not in RULES:
        raise BadRule(value)


def mended_by(rule, web, name):
    """The web behind the death of a place, with the ties that the rule puts in."""
    check_rule(rule)
    check_place(web, name)
    places = tuple([place for place in web.places if place != name])
    return web_of(places, tuple(mended(rule, web.ties, name)))


def played_by(rule, history):
    """The rows of the history: the ties behind each of its deeds by this rule."""
    check_rule(rule)
    ties = []
    rows = []
    for deed in history.deeds:
        if deed[0] == "come":
            ties = sorted([*ties, *[pair_of(deed[1], tie) for tie in deed[2]]])
        else:
            ties = mended(rule, ties, deed[1])
        rows.append(tuple(ties))
    return tuple(rows)


def mended(rule, ties, name):
    """The ties behind the death of a place, in an ascending list, by those ahead of it."""
    near = sorted([one if other == name else other for one, other in ties if name in (one, other)])
    left = [tie for tie in ties if name not in tie]
    there = {tie: True for tie in left}
    fresh = [tie for tie in wished(rule, near, ties) if tie not in there]
    return sorted([*left, *fresh])


def wished(rule, near, ties):
    """The ties that a rule wants among ascending neighbours, by the ties ahead of the death."""
    if rule == "none" or len(near) < 2:
        return []
    if rule == "star":
        return spokes(near[0], near)
    if rule == "least":
        return spokes(least_tied(near, ties), near)
    if rule == "all":
        return [(one, other) for at, one in enumerate(near) for other in near[at + 1:]]
    row = list(zip(near, near[1:]))
    if rule == "ring" and len(near) > 2:
        row.append((near[0], near[-1]))
    return row


def spokes(middle, near):
    """The ties from one of these places to all others."""
    return [pair_of(middle, name) for name in near if name != middle]


def least_tied(near, ties):
    """The place that has the fewest ties, of several such the first one."""
    many = {name: 0 for name in near}
    for tie in ties:
        for name in tie:
            if name in many:
                many[name] += 1
    return min([(many[name], name) for name in near])[1]
