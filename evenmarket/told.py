"""What was told to a market: its facts with their numbers, its slips, its closed days."""

from evenmarket.errors import BadDay, MarketError
from evenmarket.facts import BadFact, BadFacts, DayClosed, Filled, NoDeed, NoSlip, NoTrade
from evenmarket.forms import copied, is_fact, is_list


class Told:
    """Facts, each of which could be told behind those ahead of it; only `tell` changes them."""

    def __init__(self, rules):
        self._rules = rules
        self._facts = []
        # A number is the place of a fact among those that are no fills.
        self._numbered = []
        self._filled = {}
        self._days = 0

    def twin(self):
        """The same facts once more."""
        told = Told(self._rules)
        told._facts = list(self._facts)
        told._numbered = list(self._numbered)
        told._filled = dict(self._filled)
        told._days = self._days
        return told

    def rules(self):
        """The rules of the market."""
        return self._rules

    def facts(self):
        """The list of the facts."""
        return [copied(fact) for fact in self._facts]

    def numbered(self):
        """The list of the tuples (number, fact) of all that are no fills."""
        return [(number, copied(fact)) for number, fact in enumerate(self._numbered)]

    def days(self):
        """The number of the closed days."""
        return self._days

    def open_slips(self):
        """The ascending list of the numbers of the slips that are not filled."""
        return [number for number, fact in enumerate(self._numbered)
                if fact[0] == "slip" and number not in self._filled]

    def has(self, word, number):
        """Whether a fact of this kind has the number."""
        return number < len(self._numbered) and self._numbered[number][0] == word

    def fact(self, number):
        """The fact that has a number."""
        return copied(self._numbered[number])

    def check(self, fact):
        """Raise what forbids to tell any value as a fact."""
        if not is_fact(self._rules, fact):
            raise BadFact(fact)
        if fact[0] == "fill":
            self._check_fill(fact[1], fact[2])
        elif fact[0] == "close":
            if fact[1] != self._days:
                raise BadDay(fact[1])
        elif fact[1] < self._days:
            raise DayClosed(fact[1])
        elif fact[0] == "slip":
            self._check_trades(fact[1], fact[2])

    def tell(self, fact):
        """Tell a fact; its number is returned, None for a fill."""
        self.check(fact)
        kept = copied(fact)
        self._facts.append(kept)
        if fact[0] == "fill":
            self._filled[fact[1]] = fact[2]
            return None
        if fact[0] == "close":
            self._days += 1
        self._numbered.append(kept)
        return len(self._numbered) - 1

    def holding(self, filling):
        """The tuples (number, fact) that hold if open slips are filled so, by their numbers."""
        chosen = self._chosen(filling)
        # Of several deeds about one trade the last one stays.
        verdicts = {chosen[number][1]: chosen[number] for number in chosen if chosen[number][0] in ("bust", "amend")}
        held = []
        for number, fact in self.numbered():
            if fact[0] == "trade":
                held.extend([(number, trade) for trade in judged(fact, verdicts.get(number))])
            elif fact[0] == "slip":
                held.extend([(number, truth) for truth in truths(fact[1], chosen.get(number))])
            elif fact[0] != "close":
                held.append((number, fact))
        return held

    def __len__(self):
        return len(self._facts)

    def _chosen(self, filling):
        """The deeds that slips get, by ascending numbers."""
        filled = {**self._filled, **filling}
        return {number: self._numbered[number][2][filled[number]] for number in sorted(filled)
                if filled[number] is not None}

    def _check_fill(self, number, index):
        """Raise what forbids to fill the slip of a number."""
        if not self.has("slip", number):
            raise NoSlip(number)
        if number in self._filled:
            raise Filled(number)
        if index is not None and index >= len(self._numbered[number][2]):
            raise NoDeed(index)

    def _check_trades(self, day, deeds):
        """Raise NoTrade with the first number in deeds that is not that of a trade of the day."""
        for deed in deeds:
            if deed[0] in ("bust", "amend") and not (self.has("trade", deed[1]) and self._numbered[deed[1]][1] == day):
                raise NoTrade(deed[1])


def told_of(rules, facts):
    """What was told by a list of right facts; it raises BadFacts for any other value."""
    if not is_list(facts):
        raise BadFacts(facts)
    told = Told(rules)
    for fact in facts:
        try:
            told.tell(fact)
        except MarketError:
            raise BadFacts(facts) from None
    return told


def judged(trade, deed):
    """The list of what is left of a trade by a deed about it, or by None."""
    if deed is None:
        return [trade]
    if deed[0] == "bust":
        return []
    return [(*trade[:5], deed[2], trade[6])]


def truths(day, deed):
    """The list of the fact of a day that a deed of a slip, or None, stands for by itself."""
    return [(deed[0], day, *deed[1:])] if deed is not None and deed[0] in ("pay", "price") else []
