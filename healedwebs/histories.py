"""Histories: comings and deaths of places, and the web if nobody had died."""

from healedwebs.basics import MOST_PLACES, ascends, is_name, is_within, pair_of
from healedwebs.errors import BadDeed, BadHistory, BadNumber, NoPlace, NotWood
from healedwebs.webs import parts_of, web_of

MOST_DEEDS = 400
MOST_FIGURED = 1000000


class History:
    """Deeds in their order, read from a text."""

    def __init__(self, text):
        deeds = read_deeds(text)
        lives = lives_behind(deeds)
        self.text = text
        self.deeds = deeds
        self.living = names_that(True, lives)
        self.dead = names_that(False, lives)

    def __len__(self):
        return len(self.deeds)

    def __eq__(self, other):
        return isinstance(other, History) and self.text == other.text


def read_deeds(text):
    """The tuple of the deeds that a text tells."""
    if not isinstance(text, str):
        raise BadHistory(0)
    # The text without deeds is empty, though it has a line.
    lines = text.split("\n") if text else []
    deeds = []
    lives = {}
    for number, line in enumerate(lines, start=1):
        deed = read_deed(line)
        if not can_stand(deed, lives, len(deeds)):
            raise BadHistory(number)
        deeds.append(deed)
        lives[deed[1]] = deed[0] == "come"
    return tuple(deeds)


def read_deed(line):
    """The words of a line as a deed, which perhaps cannot stand."""
    words = line.split(" ")
    if words[0] == "come" and len(words) > 1:
        return ("come", words[1], tuple(words[2:]))
    return tuple(words)


def lives_behind(deeds):
    """For each place that ever came, whether it lives, in a dict."""
    lives = {}
    for deed in deeds:
        lives[deed[1]] = deed[0] == "come"
    return lives


def names_that(live, lives):
    """The names of all places that live, or of all that do not, ascending."""
    return tuple(sorted([name for name in lives if lives[name] == live]))


def can_stand(value, lives, many):
    """Whether any value is a deed that can stand behind so many deeds."""
    if many >= MOST_DEEDS or not isinstance(value, tuple):
        return False
    if len(value) == 3 and value[0] == "come":
        return can_come(value[1], value[2], lives)
    if len(value) == 2 and value[0] == "die":
        return is_living(value[1], lives)
    return False


def can_come(name, ties, lives):
    """Whether a place with this name can come with these ties."""
    if not is_name(name) or name in lives or len(lives) >= MOST_PLACES:
        return False
    return are_living(ties, lives)


def are_living(value, lives):
    """Whether any value is an ascending tuple of names of living places."""
    return (isinstance(value, tuple)
            and all([is_living(name, lives) for name in value]) and ascends(value))


def is_living(value, lives):
    """Whether any value is the name of a living place."""
    return isinstance(value, str) and lives.get(value, False)


def line_of(deed):
    """The line of a deed in the text of a history."""
    if deed[0] == "come":
        return " ".join(["come", deed[1], *deed[2]])
    return f"die {deed[1]}"


def led_on(history, deed):
    """The history with one deed more."""
    lives = lives_behind(history.deeds)
    if not can_stand(deed, lives, len(history)):
        raise BadDeed(deed)
    lives[deed[1]] = deed[0] == "come"
    later = History("")
    # Not read from its text: that would read all deeds anew at each of them.
    later.deeds = (*history.deeds, deed)
    later.text = "\n".join([history.text, line_of(deed)]) if history.deeds else line_of(deed)
    later.living = names_that(True, lives)
    later.dead = names_that(False, lives)
    return later


def first_deeds(history, many):
    """The history of the first many deeds."""
    if not is_within(many, 0, len(history)):
        raise BadNumber(many)
    return History("\n".join([line_of(deed) for deed in history.deeds[:many]]))


def all_places(history):
    """All places that ever came, ascending."""
    return tuple(sorted([*history.living, *history.dead]))


def all_elder_ties(history):
    """All elder ties, as ascending pairs, in an ascending list."""
    pairs = []
    for deed in history.deeds:
        if deed[0] == "come":
            for tie in deed[2]:
                pairs.append(pair_of(deed[1], tie))
    return sorted(pairs)


def elder_web(history):
    """The web of all that ever came, as if nobody had died."""
    return web_of(all_places(history), tuple(all_elder_ties(history)))


def elder_ties(history, name):
    """How many elder ties a place has."""
    if name not in all_places(history):
        raise NoPlace(name)
    return len([pair for pair in all_elder_ties(history) if name in pair])


def slots(history):
    """The elder ties of a living place and a dead one, told in this order."""
    living = {name: True for name in history.living}
    pairs = []
    for one, other in all_elder_ties(history):
        if one in living and other not in living:
            pairs.append((one, other))
        if other in living and one not in living:
            pairs.append((other, one))
    return tuple(sorted(pairs))


def dead_parts(history):
    """The dead places that hang together by elder ties, part by part."""
    dead = {name: True for name in history.dead}
    ties = [(one, other) for one, other in all_elder_ties(history)
            if one in dead and other in dead]
    return parts_of(web_of(history.dead, tuple(ties)))


def rims(history):
    """For each of dead_parts the living places that have a slot to it."""
    pairs = slots(history)
    return tuple([rim_of(part, pairs) for part in dead_parts(history)])


def rim_of(part, pairs):
    """The living places of those slots that lead to a place of this part."""
    return tuple(sorted({living for living, dead in pairs if dead in part}))


def is_wood_history(history):
    """Whether no coming has more than one tie."""
    return all([deed[0] == "die" or len(deed[2]) <= 1 for deed in history.deeds])


def check_wood(history):
    """Raises NotWood with the number of the first coming with more than one tie."""
    for number, deed in enumerate(history.deeds):
        if deed[0] == "come" and len(deed[2]) > 1:
            raise NotWood(number)


def figures(number):
    """How many figures a number has in base 2."""
    if not is_within(number, 0, MOST_FIGURED):
        raise BadNumber(number)
    return number.bit_length()
