"""Webs: places, ties between them, and how far places are apart."""

from healedwebs.basics import MOST_PLACES, ascends, is_name
from healedwebs.errors import BadPlace, BadPlaces, BadTies, BadWeb, NoPlaces


class Web:
    """Places and ties, read from a text."""

    def __init__(self, text):
        places, ties = read_web(text)
        self.text = text
        self.places = places
        self.ties = ties
        self._tied = tied_by(places, ties)

    def __len__(self):
        return len(self.places)

    def __contains__(self, value):
        # What is no string may not be asked of a dict: it may have no hash.
        return isinstance(value, str) and value in self._tied

    def __eq__(self, other):
        return isinstance(other, Web) and self.text == other.text

    def far_by_place(self, place):
        """For each place that is joined to this one, how far it is, in a dict."""
        return far_along(self._tied, place)

    def tied_to(self, place):
        """The names of the places that are tied to this one, in a list."""
        return list(self._tied[place])


def tied_by(places, ties):
    """For each place the list of the places that are tied to it, in a dict."""
    tied = {place: [] for place in places}
    for one, other in ties:
        tied[one].append(other)
        tied[other].append(one)
    return tied


def far_along(tied, place):
    """How far all are that are joined to a place, in a dict, by the lists that tied_by tells."""
    far = {place: 0}
    edge = [place]
    while edge:
        beyond = []
        for one in edge:
            # With all places reached, no tie leads to another one.
            if len(far) == len(tied):
                return far
            for other in tied[one]:
                if other not in far:
                    far[other] = far[one] + 1
                    beyond.append(other)
        edge = beyond
    return far


def read_web(text):
    """The places and the ties that a text tells, each an ascending tuple."""
    if not isinstance(text, str):
        raise BadWeb(0)
    lines = text.split("\n")
    words = lines[0].split(" ")
    places = tuple(words[1:])
    if words[0] != "places" or not are_places(places):
        raise BadWeb(1)
    return places, read_ties(lines, places)


def read_ties(lines, places):
    """The ties that all lines but the first one tell."""
    known = {place: True for place in places}
    ties = []
    for number, line in enumerate(lines[1:], start=2):
        words = line.split(" ")
        tie = tuple(words[1:])
        if words[0] != "tie" or not is_tie(tie, known):
            raise BadWeb(number)
        if ties and tie <= ties[-1]:
            raise BadWeb(number)
        ties.append(tie)
    return tuple(ties)


def are_places(value):
    """Whether any value is an ascending tuple of names, and not of too many."""
    return (isinstance(value, tuple) and len(value) <= MOST_PLACES
            and all([is_name(place) for place in value]) and ascends(value))


def is_tie(value, known):
    """Whether any value is a tie of the known places, the keys of a dict."""
    return (isinstance(value, tuple) and len(value) == 2
            and all([isinstance(place, str) and place in known for place in value])
            and value[0] < value[1])


def are_ties(value, places):
    """Whether any value is an ascending tuple of ties of these places."""
    known = {place: True for place in places}
    return (isinstance(value, tuple)
            and all([is_tie(tie, known) for tie in value]) and ascends(value))


def web_of(places, ties):
    """The web with these places and ties."""
    if not are_places(places):
        raise BadPlaces(places)
    if not are_ties(ties, places):
        raise BadTies(ties)
    lines = [" ".join(["places", *places])]
    for one, other in ties:
        lines.append(f"tie {one} {other}")
    return Web("\n".join(lines))


def check_place(web, value):
    """Raises BadPlace for any value that is not the name of a place of the web."""
    if value not in web:
        raise BadPlace(value)


def ties_of(web, place):
    """The places that are tied to this one, ascending."""
    check_place(web, place)
    return tuple(sorted(web.tied_to(place)))


def how_far(web, one, other):
    """Along how many ties one has to go at least; None if they are not joined."""
    check_place(web, one)
    check_place(web, other)
    return web.far_by_place(one).get(other)


def far_from(web, place):
    """All places that are joined to this one, each with how far it is."""
    check_place(web, place)
    far = web.far_by_place(place)
    return tuple([(name, far[name]) for name in sorted(far)])


def parts_of(web):
    """The parts of the web, ascending: places that are joined to one another."""
    parts = []
    seen = {}
    # By the least place of each part that has not been seen, so parts ascend.
    for place in web.places:
        if place not in seen:
            part = tuple(sorted(web.far_by_place(place)))
            parts.append(part)
            for name in part:
                seen[name] = True
    return tuple(parts)


def farthest(web):
    """How far joined places are apart at the most, and the least two that are."""
    if not web.places:
        raise NoPlaces(None)
    best = (0, web.places[0], web.places[0])
    for one in web.places:
        far = web.far_by_place(one)
        for other in sorted(far):
            # Only what is farther replaces the best: so the least pair stays,
            # and no pair is taken the other way round.
            if far[other] > best[0]:
                best = (far[other], one, other)
    return best


def is_wood(web):
    """Whether the web has no ring."""
    # Without rings each part has one tie less than places; each ring adds a tie.
    return len(web.ties) + len(parts_of(web)) == len(web.places)
