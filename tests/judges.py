"""Plain and slow: what section 6 of the document says of rows, each point straight from its words."""

from fractions import Fraction

from tests.models import FAR, all_ways


def figures(number):
    many = 0
    while 2 ** many <= number:
        many += 1
    return many


class Behind:
    """The elder web, the living and the ties behind one deed."""

    def __init__(self, deeds, rows, number):
        done = deeds[:number + 1]
        self.deed = deeds[number]
        self.row = rows[number]
        self.ahead = rows[number - 1] if number else ()
        self.places = [deed[1] for deed in done if deed[0] == 'come']
        dead = [deed[1] for deed in done if deed[0] == 'die']
        self.living = sorted([name for name in self.places if name not in dead])
        self.elder = [tuple(sorted((deed[1], other))) for deed in done if deed[0] == 'come' for other in deed[2]]
        self.told = all_ways(self.places, self.elder)
        self.found = all_ways(self.living, self.row)
        self.pairs = [(one, other) for one in self.living for other in self.living if one < other]

    def elder_of(self, name):
        return len([tie for tie in self.elder if name in tie])

    def ties_of(self, name):
        return len([tie for tie in self.row if name in tie])

    def changes(self):
        others = [tie for tie in self.ahead if self.deed[1] not in tie]
        return len([tie for tie in others if tie not in self.row]
                   + [tie for tie in self.row if tie not in others])

    def faults(self, kind):
        """For each word of the table all that breaks it."""
        many = figures(len(self.elder))
        most = figures(max([self.elder_of(name) for name in self.places]))
        factor = 2 * many if kind == 'web' else 1 + most
        table = {word: [] for word in ('coming', 'ties', 'parted', 'joined', 'far', 'changes')}
        if self.deed[0] == 'come':
            told = [*self.ahead, *[tuple(sorted((self.deed[1], other))) for other in self.deed[2]]]
            table['coming'] = [(tie, None, None) for tie in {*told, *self.row} if (tie in told) != (tie in self.row)]
        for name in self.living:
            bound = 3 * self.elder_of(name) if kind == 'web' else self.elder_of(name) + 3
            if self.ties_of(name) > bound:
                table['ties'].append(((name,), self.ties_of(name), bound))
        for pair in self.pairs:
            told, found = self.told[pair], self.found[pair]
            if told < FAR <= found:
                table['parted'].append((pair, None, None))
            elif found < FAR <= told:
                table['joined'].append((pair, None, None))
            elif told < FAR and found > factor * told:
                table['far'].append((pair, found, factor * told))
        if self.deed[0] == 'die':
            elder = self.elder_of(self.deed[1])
            bound = 10 * elder * many + 16 if kind == 'web' else 6 * elder + 12
            if self.changes() > bound:
                table['changes'].append(((), self.changes(), bound))
        return table


def plainly_judged(deeds, rows, kind):
    for number in range(len(deeds)):
        for word, faults in Behind(deeds, rows, number).faults(kind).items():
            if faults:
                return ('broken', number, word, *min(faults))
    return ('kept',)


def plainly_measured(deeds, rows):
    more, share, far, changes = [0], [Fraction(0)], [Fraction(0)], [0]
    for number in range(len(deeds)):
        behind = Behind(deeds, rows, number)
        for name in behind.living:
            more.append(behind.ties_of(name) - behind.elder_of(name))
            if behind.elder_of(name):
                share.append(Fraction(behind.ties_of(name), behind.elder_of(name)))
        for pair in behind.pairs:
            if behind.told[pair] < FAR and behind.found[pair] < FAR:
                far.append(Fraction(behind.found[pair], behind.told[pair]))
        if behind.deed[0] == 'die':
            changes.append(behind.changes())
    share, far = max(share), max(far)
    return (max(more), (share.numerator, share.denominator), (far.numerator, far.denominator), max(changes))
