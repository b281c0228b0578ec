"""Plain: what section 10 of the document says of rules, and of what breaks them, counted by other ways."""

from healedwebs.histories import History

RULES = ('none', 'line', 'ring', 'star', 'least', 'all')
KINDS = ('more', 'far', 'parted', 'changes')

# By which kinds no history breaks a rule, however long it is.
NEVER = {('none', 'more'), ('none', 'changes'), ('line', 'parted'), ('ring', 'parted'), ('star', 'far'),
         ('star', 'parted'), ('least', 'far'), ('least', 'parted'), ('all', 'far'), ('all', 'parted')}


def pairs_by(rule, near, many):
    """The pairs that a rule wants to be tied, among neighbours that have so many ties."""
    if rule == 'none':
        return []
    if rule in ('line', 'ring'):
        pairs = [(near[at], near[at + 1]) for at in range(len(near) - 1)]
        return pairs + [(near[-1], near[0])] if rule == 'ring' and len(near) >= 3 else pairs
    if rule == 'all':
        return [(one, other) for one in near for other in near if one != other]
    if not near:
        return []
    middle = near[0]
    if rule == 'least':
        fewest = min(many[name] for name in near)
        middle = [name for name in near if many[name] == fewest][0]
    return [(middle, other) for other in near if other != middle]


def ways_from(beside, start):
    """How far all are that can be reached, along what is beside each."""
    far, waiting = {start: 0}, [start]
    for one in waiting:
        for other in beside[one]:
            if other not in far:
                far[other] = far[one] + 1
                waiting.append(other)
    return far


class Play:
    """A history played by a rule, deed by deed: who is beside whom, now and in the elder web."""

    def __init__(self, rule):
        self.rule = rule
        self.beside = {}
        self.elder = {}
        self.put = None

    def go_on(self, deed):
        if deed[0] == 'come':
            for beside in (self.beside, self.elder):
                beside[deed[1]] = set(deed[2])
                for other in deed[2]:
                    beside[other].add(deed[1])
            self.put = None
        else:
            near = sorted(self.beside[deed[1]])
            many = {name: len(self.beside[name]) for name in near}
            for name in near:
                self.beside[name].remove(deed[1])
            del self.beside[deed[1]]
            self.put = (0, len(self.elder[deed[1]]))
            for one, other in pairs_by(self.rule, near, many):
                if other not in self.beside[one]:
                    self.beside[one].add(other)
                    self.beside[other].add(one)
                    self.put = (self.put[0] + 1, self.put[1])

    def row(self):
        return tuple(sorted([(one, other) for one in self.beside for other in self.beside[one] if one < other]))

    def ways(self):
        """How far any two living places are, here (or None) and in the elder web, where they are joined."""
        for one in self.beside:
            found, told = ways_from(self.beside, one), ways_from(self.elder, one)
            for other in self.beside:
                if other != one and other in told:
                    yield found.get(other), told[other]

    def comes_about(self, kind, goal):
        """Whether it comes about right now."""
        if kind == 'more':
            return any(len(self.beside[name]) > len(self.elder[name]) + goal for name in self.beside)
        if kind == 'changes':
            return self.put is not None and self.put[0] > goal * self.put[1]
        if kind == 'parted':
            return any(found is None for found, told in self.ways())
        return any(found is not None and found > goal * told for found, told in self.ways())


def rows_of(rule, history):
    play, rows = Play(rule), []
    for deed in history.deeds:
        play.go_on(deed)
        rows.append(play.row())
    return tuple(rows)


def tops(rule, history):
    """For each kind the greatest goal that is broken behind each deed, -1 where none is."""
    play = Play(rule)
    found = {kind: [] for kind in KINDS}
    for deed in history.deeds:
        play.go_on(deed)
        ways = list(play.ways())
        found['more'].append(max([len(play.beside[name]) - len(play.elder[name]) - 1 for name in play.beside] + [-1]))
        # The greatest number from 0 on of which so many times is less.
        found['far'].append(max([(now - 1) // told for now, told in ways if now is not None] + [-1]))
        found['parted'].append(max([0 for now, told in ways if now is None] + [-1]))
        found['changes'].append((play.put[0] - 1) // play.put[1] if play.put and play.put[1] else -1)
    return found


def history_of(deeds):
    """The history of these deeds, by its text."""
    return History('\n'.join([' '.join([deed[0], deed[1], *(deed[2] if deed[0] == 'come' else ())])
                              for deed in deeds]))


def behind(comings, names):
    """The history of these comings, behind which these die."""
    return history_of(list(comings) + [('die', name) for name in names])


def mixed(dice, comings, rate):
    """A history of comings amid deaths: the comings in their order, with those of their ties that still live."""
    living, deeds = [], []
    for _, name, ties in comings:
        while living and dice.random() < rate:
            deeds.append(('die', living.pop(dice.randrange(len(living)))))
        near = [tie for tie in ties if tie in living]
        if not near and living and ties:
            near = [dice.choice(living)]
        deeds.append(('come', name, tuple(sorted(near))))
        living.append(name)
    return history_of(deeds)
