"""Markets made at random, and what follows from facts once more, straight from the words of the document, to compare with."""

import itertools
import random
from fractions import Fraction

from evenmarket.errors import MarketError
from evenmarket.facts import Rules
from evenmarket.told import Told

MEMBERS = ["ann", "bob", "cid", "dee"]
MOVES = [[{}], [{}, {"oil": 5}, {"oil": -5}], [{}, {"oil": -9, "tin": 4}, {"tin": -7}, {"oil": 6, "tin": 6}]]


def random_rules(pick):
    contracts = pick.choice([[], ["oil"], ["oil", "tin"], ["tin", "oil"]])
    moves = [move for move in pick.choice(MOVES) if all(name in contracts for name in move)]
    return Rules(pick.choice([["wood"], ["wood", "iron"], ["wood"], []]), contracts, moves)


def random_deed(pick, rules, trades):
    """A deed of a slip, mostly about one of some trades."""
    kind = pick.choice(["bust", "amend", "pay", "price"])
    if kind == "bust":
        return ("bust", pick.choice(trades or [0]))
    if kind == "amend":
        return ("amend", pick.choice(trades or [0]), pick.randrange(1, 100))
    if kind == "pay":
        return ("pay", pick.choice(MEMBERS), pick.choice(["money"] + rules.goods()), pick.choice([-5, 3, 9, 60]))
    return ("price", pick.choice(rules.contracts() or ["oil"]), pick.randrange(30, 71))


def random_fact(pick, rules, told, ahead=3):
    """A fact that could be told, or perhaps not."""
    day = min(12, told.days() + max(0, pick.randrange(-5, ahead)))
    one, other = pick.sample(MEMBERS, 2)
    goods, contracts = rules.goods() or ["wood"], rules.contracts() or ["oil"]
    numbered = told.numbered()
    trades = [number for number, fact in numbered if fact[0] == "trade" and fact[1] == day]
    sales = [number for number, fact in numbered if fact[0] == "trade" and fact[4] in goods]
    slips = told.open_slips()
    kind = pick.choice(["pay", "pay", "trade", "trade", "trade", "sale", "sale", "price", "fund", "lend", "lend", "way", "queue", "slip",
                        "slip", "fill", "fill", "close", "close"])
    if kind == "pay":
        unit = pick.choice(["money"] + goods)
        return ("pay", day, one, unit, pick.choice([-3, 4, 6, 9] if unit != "money" else [-20, 10, 40, 120]))
    if kind == "trade":
        return ("trade", day, one, other, pick.choice(contracts), pick.randrange(40, 61), pick.randrange(1, 5))
    if kind == "sale":
        return ("trade", day, one, other, pick.choice(goods), pick.randrange(1, 30), pick.randrange(1, 5))
    if kind == "price":
        return ("price", day, pick.choice(contracts), pick.randrange(30, 71))
    if kind == "fund":
        return ("fund", day, one, pick.randrange(1, 9))
    if kind == "lend":
        return ("lend", day, min(12, day + pick.randrange(3)), one, other, pick.randrange(1, 60))
    if kind == "way":
        return ("way", day, one, pick.choice(["first", "last", "dearest"]))
    if kind == "queue":
        return ("queue", day, one, pick.choice(["money"] + goods), pick.sample(sales, pick.randrange(len(sales) + 1))[:3])
    if kind == "slip":
        return ("slip", day, [random_deed(pick, rules, trades) for _ in range(pick.randrange(1, 4))])
    if kind == "fill" and slips:
        return ("fill", pick.choice(slips), pick.choice([None, 0, 0, 1, 2]))
    return ("close", told.days())


def random_market(seed, most=30, slips=4, dues=7):
    """Rules and right facts, with at most so many open slips and about so many dues at once."""
    pick = random.Random(seed)
    rules = random_rules(pick)
    told = Told(rules)
    for member in MEMBERS:
        if pick.randrange(3):
            told.tell(("pay", 0, member, "money", pick.choice([40, 90, 200])))
        if pick.randrange(2) and rules.goods():
            told.tell(("pay", 0, member, pick.choice(rules.goods()), pick.choice([3, 8])))
    for _ in range(pick.randrange(most // 2, most + 1)):
        fact = random_fact(pick, rules, told)
        if fact[0] == "slip" and len(told.open_slips()) >= slips:
            continue
        sales = [one for one in told.facts() if one[0] == "trade" and one[4] in rules.goods()]
        if fact[0] == "trade" and fact[4] in rules.goods() and len(sales) >= dues:
            continue
        try:
            told.tell(fact)
        except MarketError:
            pass
    return rules, told.facts()


def holding_by_words(facts):
    """What [93] says of right facts: the list of what holds, by numbers."""
    numbered = [fact for fact in facts if fact[0] != "fill"]
    chosen = {}
    for fact in facts:
        if fact[0] == "fill" and fact[2] is not None:
            chosen[fact[1]] = numbered[fact[1]][2][fact[2]]
    held = []
    for number, fact in enumerate(numbered):
        if fact[0] == "slip":
            deed = chosen.get(number)
            if deed and deed[0] == "pay":
                held.append((number, ("pay", fact[1], deed[1], deed[2], deed[3])))
            if deed and deed[0] == "price":
                held.append((number, ("price", fact[1], deed[1], deed[2])))
        elif fact[0] == "trade":
            about = [slip for slip in chosen if chosen[slip][0] in ("bust", "amend") and chosen[slip][1] == number]
            if not about:
                held.append((number, fact))
            elif chosen[max(about)][0] == "amend":
                held.append((number, fact[:5] + (chosen[max(about)][2],) + fact[6:]))
        elif fact[0] != "close":
            held.append((number, fact))
    return held


class Words:
    """All rows and things of [94] and [95], step by step, with balances that are summed from the rows each time."""

    def __init__(self, rules, facts):
        self.rules = rules
        self.rows = []          # (day, cause, postings)
        self.things = {}
        self.prices = {contract: 50 for contract in rules.contracts()}
        self.positions = {}     # (member, contract) -> number
        self.queues = {}        # (member, unit) -> numbers
        self.trades = {}        # number -> trade fact, of dues that stand
        self.loans = []         # [number, due, lender, borrower, left]
        self.lots = {}          # (member, good) -> [[day, amount, cost, gone]]
        self.held = holding_by_words(facts)
        closed = [fact[1] for fact in facts if fact[0] == "close"]
        for day in range(13):
            self.facts = [(number, fact) for number, fact in self.held if fact[1] == day]
            self.day = day
            self.post_facts()
            if day in closed:
                self.close()

    def balance(self, account):
        return sum(postings.get(account, 0) for day, cause, postings in self.rows)

    def post(self, cause, postings):
        postings = {account: amount for account, amount in postings.items() if amount}
        if postings:
            self.rows.append((self.day, cause, postings))

    def post_facts(self):
        for number, fact in self.facts:
            if fact[0] == "pay":
                self.post(("pay", number), {(fact[2], fact[3], "free"): fact[4], ("outside", fact[3], "free"): -fact[4]})
            if fact[0] == "lend":
                self.post(("lend", number), {(fact[3], "money", "free"): -fact[5], (fact[4], "money", "free"): fact[5]})
                self.loans.append([number, fact[2], fact[3], fact[4], fact[5]])
            if fact[0] == "fund":
                self.post(("fund", number), {(fact[2], "money", "free"): -fact[3], (fact[2], "money", "fund"): fact[3]})

    def note(self, *key, value):
        if value:
            self.things[(*key, self.day)] = value

    def close(self):
        self.mark()
        for member in sorted(MEMBERS):
            if any(self.positions.get((member, contract)) for contract in self.prices) or self.balance((member, "money", "cover")):
                self.cover(member)
        self.settle()
        self.pay()
        self.note_all()

    def mark(self):
        old, self.prices = self.prices, dict(self.prices)
        for number, fact in self.facts:
            if fact[0] == "price":
                self.prices[fact[2]] = fact[3]
        for contract in sorted(self.prices):
            gets = {member: self.positions.get((member, contract), 0) * (self.prices[contract] - old[contract]) for member in MEMBERS}
            for number, fact in self.facts:
                if fact[0] == "trade" and fact[4] == contract:
                    gets[fact[2]] += fact[6] * (self.prices[contract] - fact[5])
                    gets[fact[3]] -= fact[6] * (self.prices[contract] - fact[5])
            self.post(("mark", self.day, contract), {
                **{(member, "money", "free"): amount for member, amount in gets.items()},
                ("house", "money", "free"): -sum(gets.values())})
        for number, fact in self.facts:
            if fact[0] == "trade" and fact[4] in self.prices:
                for member, sign in [(fact[2], 1), (fact[3], -1)]:
                    self.positions[(member, fact[4])] = self.positions.get((member, fact[4]), 0) + sign * fact[6]

    def needed(self, position):
        return max(-sum(number * move.get(contract, 0) for contract, number in position.items()) for move in self.rules.moves())

    def cover(self, member):
        free, cover, fund = [(member, "money", place) for place in ("free", "cover", "fund")]
        contracts = sorted(contract for contract in self.prices if self.positions.get((member, contract)))
        position = {contract: self.positions[(member, contract)] for contract in contracts}
        money = self.balance(free) + self.balance(cover)
        choices = []
        for units in itertools.product(*[range(abs(position[contract]) + 1) for contract in contracts]):
            left = {contract: position[contract] - some * (1 if position[contract] > 0 else -1) for contract, some in zip(contracts, units)}
            if self.needed(left) <= money:
                choices.append((sum(units), [-some for some in units], left, units))
        if money < 0:
            units, left = [abs(position[contract]) for contract in contracts], {contract: 0 for contract in contracts}
            new_cover = 0
        else:
            units, left = min(choices, key=lambda choice: choice[:2])[3], min(choices, key=lambda choice: choice[:2])[2]
            new_cover = self.needed(left)
        change = new_cover - self.balance(cover)
        self.post(("cover", self.day, member), {cover: change, free: -change})
        for contract in contracts:
            self.positions[(member, contract)] = left[contract]
        closing = tuple((contract, some) for contract, some in zip(contracts, units) if some)
        self.note("closing", member, value=closing)
        self.note("called", member, value=1 if closing or money < 0 else 0)
        if money < 0:
            self.fall(member, -money)

    def fall(self, member, lack):
        """Unit by unit."""
        postings = {(member, "money", "free"): lack}
        funds = {name: self.balance((name, "money", "fund")) for name in MEMBERS}
        house = self.balance(("house", "money", "free"))
        others = []
        while lack:
            if funds[member] > 0:
                bearer = (member, "money", "fund")
                funds[member] -= 1
            elif house > 0:
                bearer = ("house", "money", "free")
                house -= 1
            else:
                if not others:
                    others = [name for name in sorted(funds) if name != member and funds[name] > 0]
                if others:
                    name = others.pop(0)
                    bearer = (name, "money", "fund")
                    funds[name] -= 1
                else:
                    bearer = ("house", "money", "free")
            postings[bearer] = postings.get(bearer, 0) - 1
            lack -= 1
        self.post(("fall", self.day, member), postings)

    def settle(self):
        for number, fact in self.facts:
            if fact[0] == "queue":
                queue = self.queues.get((fact[2], fact[3]), [])
                front = [one for one in fact[4] if one in queue]
                self.queues[(fact[2], fact[3])] = front + [one for one in queue if one not in front]
        greatest = set()
        for many in range(len(self.trades) + 1):
            for some in itertools.combinations(sorted(self.trades), many):
                if self.goes_together(some):
                    greatest.update(some)
        self.handed = sorted(greatest)
        for number in self.handed:
            word, day, buyer, seller, unit, price, amount = self.trades.pop(number)
            money = price * amount
            self.post(("settle", self.day, number), {
                (seller, unit, "free"): -amount, (buyer, unit, "free"): amount,
                (buyer, "money", "free"): -money, (seller, "money", "free"): money})
            self.note("settled", number, value=money)
        # Lots come by what was paid first, and then by what settled.
        for number, fact in self.facts:
            if fact[0] == "pay" and fact[3] != "money":
                self.part(fact[2], fact[3], fact[4], 0)
        for number in self.handed:
            word, day, buyer, seller, unit, price, amount = dict(self.held)[number]
            self.part(seller, unit, -amount, None)
            self.part(buyer, unit, amount, price * amount)
        for door in self.queues:
            self.queues[door] = [number for number in self.queues[door] if number not in greatest]
        for number, fact in self.facts:
            if fact[0] == "trade" and fact[4] not in self.prices:
                self.trades[number] = fact
                self.queues.setdefault((fact[3], fact[4]), []).append(number)
                self.queues.setdefault((fact[2], "money"), []).append(number)

    def goes_together(self, some):
        for (owner, unit), queue in self.queues.items():
            there = [number for number in queue if number in some]
            if there != queue[:len(there)]:
                return False
            has = self.balance((owner, unit, "free"))
            for number in some:
                word, day, buyer, seller, good, price, amount = self.trades[number]
                if unit == "money":
                    has += price * amount * ((seller == owner) - (buyer == owner))
                elif unit == good:
                    has += amount * ((buyer == owner) - (seller == owner))
            if there and has < 0:
                return False
        return True

    def way(self, member):
        found = [(fact[1], number, fact[3]) for number, fact in self.held if fact[0] == "way" and fact[2] == member and fact[1] <= self.day]
        return max(found)[2] if found else "first"

    def part(self, member, good, amount, cost):
        lots = self.lots.setdefault((member, good), [])
        if amount > 0:
            lots.append([self.day, amount, cost, 0])
        for _ in range(-amount):
            there = [lot for lot in lots if lot[3] < lot[1]]
            if there:
                way = self.way(member)
                most = max(Fraction(lot[2], lot[1]) for lot in there)
                lot = {"first": there[0], "last": there[-1],
                       "dearest": next(lot for lot in there if Fraction(lot[2], lot[1]) == most)}[way]
                lot[3] += 1

    def pay(self):
        late = [loan for loan in self.loans if loan[1] <= self.day and loan[4]]
        money = {member: max(0, self.balance((member, "money", "free"))) for member in MEMBERS}
        debts = {}
        for number, due, lender, borrower, left in late:
            debts[(borrower, lender)] = debts.get((borrower, lender), 0) + left
        owes = {}
        for (borrower, lender), debt in debts.items():
            owes[borrower] = owes.get(borrower, 0) + debt
        row = dict(owes)
        while True:
            parts = {key: row[key[0]] * debts[key] // owes[key[0]] for key in debts}
            lower = {name: min(owes[name], money[name] + sum(part for key, part in parts.items() if key[1] == name)) for name in owes}
            if lower == row:
                break
            row = lower
        for borrower, lender in sorted(debts):
            part = parts[(borrower, lender)]
            self.post(("debt", self.day, lender, borrower), {(borrower, "money", "free"): -part, (lender, "money", "free"): part})
            self.note("paid", lender, borrower, value=part)
            for loan in late:
                if loan[2:4] == [lender, borrower]:
                    some = min(part, loan[4])
                    loan[4] -= some
                    part -= some

    def note_all(self):
        for contract, price in self.prices.items():
            self.note("price", contract, value=price)
        for member in MEMBERS:
            self.note("position", member, value=tuple((contract, self.positions[(member, contract)]) for contract in sorted(self.prices)
                                                      if self.positions.get((member, contract))))
        for account in {account for day, cause, postings in self.rows for account in postings}:
            self.note("balance", account, value=self.balance(account))
        for number, fact in self.trades.items():
            self.note("standing", number, value=fact[5] * fact[6])
        for (owner, unit), queue in self.queues.items():
            self.note("queue", owner, unit, value=tuple(queue))
        for number, due, lender, borrower, left in self.loans:
            self.note("owed", number, value=left)
        for (member, good), lots in self.lots.items():
            self.note("lots", member, good, value=tuple(map(tuple, lots)))
