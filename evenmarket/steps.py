"""The steps of a day: the rows of its facts, marking, covering, the round, paying, lots."""

from evenmarket.closing import closed, covering
from evenmarket.dues import changes_of, due_of
from evenmarket.greatest import greatest_of
from evenmarket.handing import rows_of
from evenmarket.names import is_member
from evenmarket.positions import behind, marked
from evenmarket.shares import paying
from evenmarket.sums import summed
from evenmarket.waterfall import waterfall


def post_facts(books, facts):
    """Post the rows of the facts of a day."""
    for number, fact in facts:
        if fact[0] == "pay":
            word, day, member, unit, amount = fact
            books.post(day, ("pay", number), {("outside", unit, "free"): -amount, (member, unit, "free"): amount})
        elif fact[0] == "lend":
            word, day, until, lender, borrower, amount = fact
            books.post(day, ("lend", number), free_money({lender: -amount, borrower: amount}))
            books.loans[number] = (until, lender, borrower, amount)
        elif fact[0] == "fund":
            word, day, member, amount = fact
            books.post(day, ("fund", number), {(member, "money", "free"): -amount, (member, "money", "fund"): amount})


def close_day(books, day, facts):
    """Do all that is done at the close of a day with its facts, behind their rows are posted."""
    trades = [fact[2:] for number, fact in facts if fact[0] == "trade" and fact[4] in books.prices]
    sales = {number: fact[2:] for number, fact in facts if fact[0] == "trade" and fact[4] not in books.prices}
    mark(books, day, trades, told_prices(books, facts))
    for member in members_to_cover(books):
        cover(books, day, member)
    for number, fact in facts:
        if fact[0] == "queue":
            bring_forward(books, fact)
    handed = hand_over(books, day)
    for number in sales:
        stand(books, number, sales[number])
    pay_debts(books, day)
    part_lots(books, day, facts, handed)
    note_state(books, day)


def free_money(changes):
    """The postings of changes of the free money of owners."""
    return {(owner, "money", "free"): changes[owner] for owner in changes}


def told_prices(books, facts):
    """The prices of a day, the last one that is told of a contract, or that of the day before."""
    prices = dict(books.prices)
    for number, fact in facts:
        if fact[0] == "price":
            prices[fact[2]] = fact[3]
    return prices


def mark(books, day, trades, prices):
    """Let members pay or get the differences of the prices, and their positions change by the trades of the day."""
    for contract in sorted(prices):
        before = {member: {contract: books.positions[member][contract]} for member in books.positions
                  if contract in books.positions[member]}
        brought = marked(before, [trade for trade in trades if trade[2] == contract], books.prices, prices)
        total = sum([brought[member] for member in brought])
        books.post(day, ("mark", day, contract), free_money({**brought, "house": -total}))
    books.positions = behind(books.positions, trades)
    books.prices = prices


def members_to_cover(books):
    """The ascending list of the members with a position or cover."""
    balances = books.balances()
    return sorted(set(list(books.positions) + [account[0] for account in balances if account[2] == "cover"]))


def cover(books, day, member):
    """Bring the cover of a member to what the position needs; close out, and let others bear what lacks."""
    position = books.positions.get(member, {})
    before = books.has(member, "money", "cover")
    free = books.has(member, "money", "free")
    behind_it, rest, closing, lack = covering(position, books.shifts(), before, free)
    books.post(day, ("cover", day, member),
               {(member, "money", "cover"): behind_it - before, (member, "money", "free"): before - behind_it})
    left = closed(position, closing)
    books.positions = {name: left if name == member else books.positions[name]
                       for name in books.positions if name != member or len(left) > 0}
    if len(closing) > 0 or lack > 0:
        books.noted[("called", member, day)] = 1
    if len(closing) > 0:
        books.noted[("closing", member, day)] = tuple(sorted(closing.items()))
    if lack > 0:
        fall(books, day, member, lack)


def fall(books, day, member, lack):
    """Bring what a member lacks to their free money: from their own fund, the house, and the funds of the others."""
    balances = books.balances()
    funds = {account[0]: balances[account] for account in balances if account[2] == "fund" and account[0] != member}
    own = min(lack, books.has(member, "money", "fund"))
    house = books.has("house", "money", "free")
    left, rest = waterfall(lack - own, house, funds)
    changes = {(name, "money", "fund"): rest[name] - funds[name] for name in rest}
    changes[("house", "money", "free")] = left - house
    changes[(member, "money", "fund")] = -own
    changes[(member, "money", "free")] = lack
    books.post(day, ("fall", day, member), changes)


def bring_forward(books, fact):
    """Let dues that a member names go to the front of a queue."""
    word, day, member, unit, numbers = fact
    queue = books.queue((member, unit))
    front = [number for number in numbers if number in queue]
    books.queues[(member, unit)] = front + [number for number in queue if number not in front]


def hand_over(books, day):
    """Settle the greatest set of the dues that stand; the dict of the trades that settled, by numbers, is returned."""
    changes = {number: changes_of(books.dues[number][1]) for number in books.dues}
    balances = books.balances()
    has = {account[:2]: balances[account] for account in balances if is_member(account[0]) and account[2] == "free"}
    handed = {}
    for number in greatest_of(books.queues, changes, has, list(changes)):
        handed[number] = books.dues[number][0]
        row = rows_of(day, books.dues[number][1])
        books.post(day, row.cause, row.postings())
        books.noted[("settled", number, day)] = money_of(handed[number])
        del books.dues[number]
    books.queues = {door: [one for one in books.queues[door] if one not in handed] for door in books.queues}
    return handed


def money_of(trade):
    """The money of a trade of goods."""
    buyer, seller, unit, price, amount = trade
    return price * amount


def stand(books, number, trade):
    """Let the due of a trade of goods stand, last in its queues."""
    due = due_of(number, trade)
    books.dues[number] = (trade, due)
    for door in due.doors():
        books.queues[door] = books.queue(door) + [number]


def pay_debts(books, day):
    """Pay as much as can be of the loans that are due."""
    late = {number: books.loans[number] for number in books.loans if books.loans[number][0] <= day}
    debts = summed([{(borrower, lender): left} for until, lender, borrower, left in list(late.values())])
    balances = books.balances()
    money = {account[0]: balances[account] for account in balances
             if is_member(account[0]) and account[1:] == ("money", "free") and balances[account] > 0}
    paid = paying(debts, money)
    for borrower, lender in paid:
        part = paid[(borrower, lender)]
        if part > 0:
            books.post(day, ("debt", day, lender, borrower), free_money({borrower: -part, lender: part}))
            books.noted[("paid", lender, borrower, day)] = part
            pay_loans(books, [number for number in late if late[number][1:3] == (lender, borrower)], part)


def pay_loans(books, numbers, money):
    """Lessen loans by money that was paid, those with lesser numbers first."""
    for number in sorted(numbers):
        until, lender, borrower, left = books.loans[number]
        part = min(left, money)
        books.loans[number] = (until, lender, borrower, left - part)
        money -= part


def part_lots(books, day, facts, handed):
    """Let lots come and go: by the payments of goods of a day, and then by the dues that settled."""
    for number, fact in facts:
        if fact[0] == "way":
            books.habits[fact[2]] = fact[3]
    for number, fact in facts:
        if fact[0] == "pay" and fact[3] != "money":
            change_lots(books, day, fact[2:], 0)
    for number in handed:
        buyer, seller, unit, price, amount = handed[number]
        change_lots(books, day, (seller, unit, -amount), 0)
        change_lots(books, day, (buyer, unit, amount), price * amount)


def change_lots(books, day, change, cost):
    """Let a lot of a member come at a cost, or as many units go as are there."""
    member, good, amount = change
    lots = books.lots(member, good)
    if amount > 0:
        lots = lots.came(day, amount, cost)
    elif lots.units() > 0:
        lots = lots.went(min(-amount, lots.units()), books.habits.get(member, "first"))[0]
    books.stores[(member, good)] = lots


def note_state(books, day):
    """Note the things of a closed day, but for those that its steps have noted."""
    noted = books.noted
    balances = books.balances()
    for contract in books.prices:
        noted[("price", contract, day)] = books.prices[contract]
    for member in books.positions:
        noted[("position", member, day)] = tuple(sorted(books.positions[member].items()))
    for account in balances:
        noted[("balance", account, day)] = balances[account]
    for number in books.dues:
        noted[("standing", number, day)] = money_of(books.dues[number][0])
    for owner, unit in books.queues:
        if len(books.queues[(owner, unit)]) > 0:
            noted[("queue", owner, unit, day)] = tuple(books.queues[(owner, unit)])
    for number in books.loans:
        if books.loans[number][3] > 0:
            noted[("owed", number, day)] = books.loans[number][3]
    for member, good in books.stores:
        lots = books.lots(member, good).lots()
        if len(lots) > 0:
            noted[("lots", member, good, day)] = tuple(lots)
