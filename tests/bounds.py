"""What sections 7 and 8 of the document promise, counted plainly and by other ways than the package's."""


def bits_of(number):
    """The places of the ones in a number's base two."""
    while number:
        low = number & -number
        yield low.bit_length() - 1
        number ^= low


def spread(beside, start):
    """Behind how many ties which places are reached, as numbers whose ones are the places."""
    reached = [1 << start]
    edge = 1 << start
    while edge:
        beyond = 0
        for one in bits_of(edge):
            beyond |= beside[one]
        edge = beyond & ~reached[-1]
        if edge:
            reached.append(reached[-1] | edge)
    return reached


def binary(number):
    """How many figures a number has in base two."""
    return len(f'{number:b}') if number else 0


class Bounds:
    """Walks along deeds and rows, and tells the first thing that a healer may not do."""

    def __init__(self, kind):
        self.kind = kind
        self.at = {}
        self.living = {}
        self.many = {}
        self.beside = []
        self.ways = []
        self.ahead = set()

    def come(self, name, others):
        number = self.at[name] = len(self.beside)
        self.living[name] = True
        self.many[name] = len(others)
        self.beside.append(0)
        for other in others:
            self.many[other] += 1
            self.beside[self.at[other]] |= 1 << number
            self.beside[number] |= 1 << self.at[other]
        self.ways = [spread(self.beside, one) for one in range(number + 1)]

    def factor(self):
        if self.kind == 'web':
            return 2 * binary(sum(self.many.values()) // 2)
        return 1 + binary(max(self.many.values()))

    def wrong(self, deed, row):
        """What is wrong behind the next deed, or None."""
        row_set = set(row)
        if list(row) != sorted(row_set):
            return 'no row'
        if deed[0] == 'come':
            self.come(deed[1], deed[2])
            told = {(min(deed[1], other), max(deed[1], other)) for other in deed[2]}
            if row_set != self.ahead | told:
                return 'coming'
        else:
            del self.living[deed[1]]
            others = {tie for tie in self.ahead if deed[1] not in tie}
            elder = self.many[deed[1]]
            if self.kind == 'web':
                most = 10 * elder * binary(sum(self.many.values()) // 2) + 16
            else:
                most = 6 * elder + 12
            if len(row_set - others) + len(others - row_set) > most:
                return 'changes'
        self.ahead = row_set
        return self.wrong_ties(row) or self.wrong_ways(row)

    def wrong_ties(self, row):
        found = {name: 0 for name in self.living}
        for one, other in row:
            if not one < other or one not in found or other not in found:
                return 'no tie'
            found[one] += 1
            found[other] += 1
        for name, ties in found.items():
            if ties > (3 * self.many[name] if self.kind == 'web' else self.many[name] + 3):
                return 'ties'
        return None

    def wrong_ways(self, row):
        beside = [0] * len(self.beside)
        for one, other in row:
            beside[self.at[one]] |= 1 << self.at[other]
            beside[self.at[other]] |= 1 << self.at[one]
        alive = sum([1 << self.at[name] for name in self.living])
        factor = self.factor()
        for name in self.living:
            now, told = spread(beside, self.at[name]), self.ways[self.at[name]]
            if now[-1] != told[-1] & alive:
                return 'joined'
            for far, reached in enumerate(told):
                if reached & alive & ~now[min(factor * far, len(now) - 1)]:
                    return 'far'
        return None


def first_wrong(deeds, rows, kind):
    """The number of the first deed behind which a bound is broken, and what; None if all are kept."""
    if not isinstance(rows, tuple) or len(rows) != len(deeds):
        return 'number of rows'
    bounds = Bounds(kind)
    for number, (deed, row) in enumerate(zip(deeds, rows)):
        if not isinstance(row, tuple):
            return number, 'no tuple'
        wrong = bounds.wrong(deed, row)
        if wrong:
            return number, wrong
    return None
