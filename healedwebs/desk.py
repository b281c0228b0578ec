"""Desks: things under names, deeds that can be undone, and journals of them."""

from healedwebs.basics import is_name
from healedwebs.errors import (BadDeed, BadDesk, BadName, HealError, NoNote, NothingToRedo, NothingToUndo,
                               WrongKind)
from healedwebs.things import is_desk_deed, kind_of, made_by, thing_at
from healedwebs.webs import how_far, web_of

LONGEST_NUMBER = 9


class Desk:
    """Things under names. A step is a deed, the name it is about, and its thing ahead and behind."""

    def __init__(self):
        self.names = ()
        self._things = {}
        self._done = []
        # The step that was undone last stands last.
        self._undone = []
        self._notes = {}

    def __len__(self):
        return len(self.names)

    def __contains__(self, value):
        return isinstance(value, str) and value in self._things

    def lead(self, deed):
        """A deed is done; what was undone is forgotten."""
        if not is_desk_deed(deed):
            raise BadDeed(deed)
        name, thing = made_by(self._things, deed)
        stood = len(self._done)
        self._notes = {word: self._notes[word] for word in self._notes if self._notes[word] <= stood}
        self._undone = []
        self._done.append((deed, name, self._things.get(name), thing))
        self._put(name, thing)

    def thing_of(self, name):
        """The web, the history, or a copy of the live web of this name."""
        thing = thing_at(self._things, name)
        if kind_of(thing) == "live":
            return thing.healed_web().copy()
        return thing

    def thing_kind(self, name):
        """Which kind of thing has this name."""
        return kind_of(thing_at(self._things, name))

    def far_of(self, name, one, other):
        """How far two places are apart in the web or the live web of this name."""
        thing = thing_at(self._things, name)
        kind = kind_of(thing)
        if kind == "history":
            raise WrongKind(name)
        if kind == "web":
            return how_far(thing, one, other)
        web = thing.healed_web()
        return how_far(web_of(web.names, web.ties), one, other)

    def undo(self):
        """The last deed that stands is undone."""
        if not self._done:
            raise NothingToUndo(0)
        step = self._done.pop()
        self._undone.append(step)
        self._put(step[1], step[2])

    def redo(self):
        """The deed that was undone last is done again."""
        if not self._undone:
            raise NothingToRedo(len(self._done))
        step = self._undone.pop()
        self._done.append(step)
        self._put(step[1], step[3])

    def note(self, word):
        """A word notes how many deeds stand now."""
        if not is_name(word):
            raise BadName(word)
        self._notes[word] = len(self._done)

    def notes(self):
        """All notes, ascending, each with the number of deeds that it notes."""
        return tuple([(word, self._notes[word]) for word in sorted(self._notes)])

    def back(self, word):
        """Just as many deeds stand as the word notes."""
        if not isinstance(word, str) or word not in self._notes:
            raise NoNote(word)
        self.stand_at(self._notes[word])

    def all_deeds(self):
        """The deeds that stand, and those that were undone, the next to be done again first."""
        return (tuple([step[0] for step in self._done]),
                tuple([step[0] for step in reversed(self._undone)]))

    def stand_at(self, many):
        """Undoes deeds, or does them again, until so many stand."""
        while len(self._done) > many:
            self.undo()
        while len(self._done) < many:
            self.redo()

    def _put(self, name, thing):
        """Makes this the thing of the name; None takes it away."""
        if thing is None:
            del self._things[name]
        else:
            self._things[name] = thing
        self.names = tuple(sorted(self._things))


def desk_text(desk):
    """The text of a desk: how many deeds stand, its notes, all deeds."""
    done, undone = desk.all_deeds()
    lines = [f"stand {len(done)}"]
    for word, number in desk.notes():
        lines.append(f"note {word} {number}")
    for deed in [*done, *undone]:
        lines.extend(lines_of(deed))
    return "\n".join(lines)


def lines_of(deed):
    """The lines of a deed."""
    if deed[0] in ("web", "history"):
        rows = deed[2].split("\n")
        return [f"{deed[0]} {deed[1]} {len(rows)}", *rows]
    if deed[0] == "come":
        return [" ".join(["come", deed[1], deed[2], *deed[3]])]
    return [" ".join([str(part) for part in deed])]


def read_desk(text):
    """The desk with this text."""
    if not isinstance(text, str):
        raise BadDesk(0)
    lines = text.split("\n")
    stand = read_stand(lines)
    notes = read_notes(lines)
    desk = Desk()
    in_all = lead_lines(desk, lines, 1 + len(notes))
    # That there are enough deeds is told only if all else can stand.
    for number, many in enumerate([stand, *[note[1] for note in notes]], start=1):
        if many > in_all:
            raise BadDesk(number)
    # From the last deed backwards, so that each is undone but once.
    for many, word in sorted([(note[1], note[0]) for note in notes], reverse=True):
        desk.stand_at(many)
        desk.note(word)
    desk.stand_at(stand)
    return desk


def number_in(word):
    """The integer that a word is, as Python writes those from 0 on; None if it is none."""
    if not word.isascii() or not word.isdigit() or len(word) > LONGEST_NUMBER:
        return None
    if len(word) > 1 and word[0] == "0":
        return None
    return int(word)


def read_stand(lines):
    """How many deeds are to stand."""
    words = lines[0].split(" ")
    stand = number_in(words[-1])
    if len(words) != 2 or words[0] != "stand" or stand is None:
        raise BadDesk(1)
    return stand


def read_notes(lines):
    """All notes, in a list: each a word and a number."""
    notes = []
    for number, line in enumerate(lines[1:], start=2):
        words = line.split(" ")
        if words[0] != "note":
            break
        many = number_in(words[-1])
        if len(words) != 3 or not is_name(words[1]) or many is None:
            raise BadDesk(number)
        if notes and words[1] <= notes[-1][0]:
            raise BadDesk(number)
        notes.append((words[1], many))
    return notes


def lead_lines(desk, lines, start):
    """The desk goes on by the deeds of all lines from this place on; how many there are."""
    at = start
    done = 0
    while at < len(lines):
        deed, behind = read_deed(lines, at)
        try:
            desk.lead(deed)
        except HealError:
            raise BadDesk(at + 1) from None
        at = behind
        done += 1
    return done


def read_deed(lines, at):
    """The deed whose first line stands at this place, and the place behind its last line.

    What is not as it should be in a line alone is left to the desk, which refuses it.
    """
    words = lines[at].split(" ")
    if words[0] in ("web", "history"):
        many = number_in(words[-1])
        if len(words) != 3 or not is_name(words[1]) or not many:
            raise BadDesk(at + 1)
        behind = at + 1 + many
        if behind > len(lines):
            raise BadDesk(len(lines) + 1)
        return (words[0], words[1], "\n".join(lines[at + 1:behind])), behind
    if words[0] == "come":
        return (*words[:3], tuple(words[3:])), at + 1
    if words[0] == "first" and len(words) == 4:
        return (*words[:3], number_in(words[3])), at + 1
    return tuple(words), at + 1
