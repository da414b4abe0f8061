"""The interface of the document: names, places, arguments, errors [9], [10]."""

import importlib
import inspect
import pathlib
import unittest

from evenmarket.errors import MarketError

ERRORS = {
    "errors": {
        "BadDay": ["given"], "BadCause": ["given"], "BadPostings": ["given"], "BadAccount": ["given"],
        "BadAmount": ["given"], "BadUnit": ["given"], "BadOwner": ["given"], "BadName": ["given"],
        "BadPrice": ["given"], "BadRow": ["given"], "BadStatement": ["given"], "NotCarried": ["given"],
        "NotWhole": ["given"], "Unbalanced": ["given", "off"], "BadText": [], "BadLine": ["line"],
        "NothingToUndo": [], "NothingToRedo": []},
    "orders": {
        "BadOrder": ["field", "value"], "BadSide": ["given"], "NameTaken": ["name"], "UnknownOrder": ["name"],
        "Crossing": ["name"]},
    "clearing": {
        "BadBid": ["given"], "TooManyBids": ["given"], "BidTaken": ["given"], "BothSides": ["given"], "NoClearing": []},
    "auctions": {"BadWidth": ["given"], "UnknownBid": ["given"], "Cleared": []},
    "pools": {"BadPool": ["field", "value"], "UnlikeUnits": ["one", "other"], "NoUnit": [], "NoShares": []},
    "lots": {
        "BadLots": ["given"], "BadCost": ["given"], "BadWay": ["given"], "NotThere": ["given"], "BadEvent": ["index"],
        "BadIndex": ["given"]},
    "positions": {"BadPosition": ["given"], "BadPrices": ["given"], "UnknownUnit": ["given"]},
    "cover": {"BadMove": ["given"], "BadCount": ["count"], "BadStanding": ["given"]},
    "closing": {"BadClosing": ["given"]},
    "shares": {"BadDebt": ["given"], "NoDebtor": ["given"]},
    "dues": {
        "BadNumber": ["given"], "BadLegs": ["given"], "BadDues": ["given"], "BadHoldings": ["given"],
        "BadQueues": ["given"], "BadOwners": ["given"], "NoDue": ["given"], "Duplicate": ["given"],
        "NotTogether": ["given"], "Settles": ["given"], "TooMany": ["count"]},
    "facts": {
        "BadRules": ["given"], "BadFact": ["given"], "BadFacts": ["given"], "NoSlip": ["given"], "Filled": ["given"],
        "NoDeed": ["given"], "DayClosed": ["given"], "NoTrade": ["given"], "NotKnown": ["given"], "BadQuestion": ["given"],
        "ManySlips": ["given"]},
    "sight": {"BadViewer": ["given"], "Hidden": ["given"]},
}

FUNCTIONS = {
    "names": {"is_name": "(value)", "is_member": "(value)", "is_account": "(value)", "is_cause": "(value)"},
    "rows": {"transfer": "(day, cause, giver, taker, amount)"},
    "journals": {"differences": "(one, other, day=None)", "adjusting": "(one, other, day)"},
    "statements": {
        "is_statement": "(value)", "joined_statements": "(one, other)", "rows_of_statements": "(statements)"},
    "matching": {"entered": "(ladder, order)", "changed": "(ladder, name, order)", "would": "(ladder, order)"},
    "clearing": {
        "counts": "(orders, price)", "volume": "(orders, price)", "left": "(orders, price)", "gain": "(orders, price)",
        "greatest_gain": "(orders)", "best": "(orders)", "clearing": "(orders, told)", "fills": "(orders, price)",
        "pairs": "(orders, price)", "is_paper": "(orders, value)", "paper_of": "(orders, told)",
        "turning": "(orders, told, side, price)"},
    "both": {
        "beside": "(ladder, pool, order)", "levelled": "(ladder, pool)", "cheapest": "(ladder, pool, side, units)"},
    "gains": {"cost_range": "(lots, amount)", "gains": "(events)", "turned": "(events, at, event)"},
    "positions": {
        "joined": "(one, other)", "net": "(trades)", "behind": "(before, trades)",
        "marked": "(before, trades, old, new)"},
    "cover": {
        "loss": "(position, move)", "need": "(position, moves)", "worst_move": "(position, moves)",
        "worst": "(position, orders, moves, prices)", "covered": "(position, orders, moves, prices, money)",
        "is_uncovered": "(position, orders, moves, prices, money, value)",
        "room": "(position, orders, moves, prices, money, side, contract, price)"},
    "closing": {
        "closings": "(position, moves, money)", "closed": "(position, closing)",
        "is_closing": "(position, moves, money, value)", "covering": "(position, moves, cover, free)"},
    "waterfall": {"waterfall": "(lack, house, funds)", "bearer": "(lack, house, funds)"},
    "shares": {
        "row_of": "(debts, money)", "paying": "(debts, money)", "round_after": "(debts, money, row)",
        "is_fair": "(debts, money, value)", "short": "(debts, money)", "brought_down": "(debts, money, member)",
        "lacking": "(debts, money, member)", "after_paying": "(debts, money)"},
    "dues": {"due_of": "(number, trade)", "netted": "(number, dues)"},
    "greatest": {
        "goes_together": "(held, value)", "settled": "(held)", "failed": "(held)", "all_sets": "(held)"},
    "strikes": {
        "strikes": "(held, still=())", "are_strikes": "(held, value, still=())", "strikes_of": "(held, number)",
        "root": "(held, number)", "roots": "(held)"},
    "bundles": {"bundles": "(held)", "unwinding": "(held)", "is_unwinding": "(held, value)"},
    "helping": {
        "staircase": "(held, owner, unit)", "least_help": "(held, owner, unit, number)", "shortfalls": "(held)",
        "settled_without": "(held, still)", "sure": "(held, number)"},
    "handing": {"rows_of": "(day, due)"},
    "telling": {"check": "(rules, facts, fact)", "numbered": "(rules, facts)", "at_once": "(rules, facts)"},
    "run": {"run": "(rules, facts)"},
    "final": {
        "reach": "(rules, facts, fill)", "chain": "(rules, facts, fill, thing)", "answer": "(rules, facts, question)",
        "fillings": "(rules, facts)", "final": "(rules, facts, question)", "answers": "(rules, facts, question)",
        "matters": "(rules, facts, question)", "change_places": "(rules, facts, first, second)"},
    "sight": {
        "seen": "(rules, facts, viewer)", "seen_rows": "(journal, viewer)", "told": "(market, viewer, question)"},
}

CLASSES = {
    ("rows", "Row"): {
        "__init__": "(self, day, cause, postings)", "postings": "(self)", "posting": "(self, account)",
        "owners": "(self)", "units": "(self)", "turned": "(self, day, cause)", "moved": "(self, day, cause)",
        "__eq__": "(self, other)", "__str__": "(self)", "read": "(cls, text)"},
    ("journals", "Journal"): {
        "__init__": "(self, rows=())", "rows": "(self, day=None)", "caused": "(self, cause)",
        "with_rows": "(self, rows)", "turned": "(self)", "balance": "(self, account, day=None)",
        "total": "(self, unit, *, owners=None, places=None, day=None)", "cut": "(self, day=None)", "owners": "(self)",
        "units": "(self)", "days": "(self)", "statement": "(self, owner, first, last)", "__eq__": "(self, other)",
        "__len__": "(self)", "text": "(self)", "read": "(cls, text)"},
    ("orders", "Order"): {
        "__init__": "(self, name, member, side, unit, price, amount, shows=None, kind='stays', most=None)",
        "__eq__": "(self, other)", "__str__": "(self)", "read": "(cls, text)"},
    ("ladders", "Ladder"): {
        "__init__": "(self, unit)", "__len__": "(self)", "__contains__": "(self, name)", "__eq__": "(self, other)",
        "placed": "(self, order, left=None)", "dropped": "(self, name)", "lessened": "(self, name, units)",
        "taken": "(self, side, units)", "names": "(self, side)", "order": "(self, name)", "left": "(self, name)",
        "in_slice": "(self, name)", "best": "(self, side)", "shown": "(self, side)", "units": "(self, side)",
        "worth": "(self, side, units)", "place": "(self, name)"},
    ("auctions", "Auction"): {
        "__init__": "(self, unit, told, width)", "tell": "(self, name, member, side, price, amount)",
        "lessen": "(self, name, amount)", "take_out": "(self, name)", "orders": "(self)", "shown": "(self)",
        "phase": "(self)", "clear": "(self)", "twin": "(self)"},
    ("pools", "Pool"): {
        "__init__": "(self, unit, money, stock, shares)", "ask": "(self)", "bid": "(self)", "sold": "(self, count=1)",
        "bought": "(self, count=1)", "asks": "(self, count)", "bids": "(self, count)",
        "joined": "(self, money, stock)", "left": "(self, shares)", "__eq__": "(self, other)", "__str__": "(self)",
        "read": "(cls, text)"},
    ("lots", "Lots"): {
        "__init__": "(self, lots=())", "lots": "(self)", "units": "(self)", "cost": "(self)",
        "came": "(self, day, amount, cost)", "went": "(self, amount, way)", "__eq__": "(self, other)",
        "text": "(self)", "read": "(cls, text)"},
    ("dues", "Due"): {
        "__init__": "(self, number, legs)", "gives": "(self, owner, unit)", "takes": "(self, owner, unit)",
        "owners": "(self)", "doors": "(self)", "__eq__": "(self, other)", "text": "(self)", "read": "(cls, text)"},
    ("rounds", "Round"): {
        "__init__": "(self, holdings, dues, queues=None)", "numbers": "(self)", "__len__": "(self)",
        "due": "(self, number)", "doors": "(self)", "queue": "(self, owner, unit)", "holds": "(self, owner, unit)",
        "owners": "(self)", "with_due": "(self, due)", "without": "(self, number)",
        "with_more": "(self, owner, unit, amount)", "after": "(self, numbers)", "__eq__": "(self, other)"},
    ("facts", "Rules"): {
        "__init__": "(self, goods, contracts, moves)", "goods": "(self)", "contracts": "(self)", "moves": "(self)",
        "__eq__": "(self, other)"},
    ("run", "Run"): {"days": "(self)", "journal": "(self)", "things": "(self)"},
    ("market", "Market"): {
        "__init__": "(self, rules)", "tell": "(self, fact)", "rules": "(self)", "facts": "(self)", "run": "(self)",
        "__len__": "(self)", "known": "(self, count)", "open_slips": "(self)", "posted": "(self)"},
    ("console", "Console"): {
        "__init__": "(self, rules)", "take": "(self, text)", "today": "(self)", "market": "(self)", "names": "(self)",
        "steps": "(self)", "__len__": "(self)", "shown": "(self, unit)", "text": "(self)", "undo": "(self)",
        "redo": "(self)", "tried": "(self, act)"},
}


def module(name):
    return importlib.import_module("evenmarket." + name)


class Interface(unittest.TestCase):

    def test_functions_stand_in_their_files(self):
        for file, functions in FUNCTIONS.items():
            for name, arguments in functions.items():
                with self.subTest(file=file, name=name):
                    function = getattr(module(file), name)
                    self.assertEqual(function.__module__, "evenmarket." + file)
                    self.assertEqual(str(inspect.signature(function)), arguments)

    def test_methods_stand_in_their_classes(self):
        for (file, name), methods in CLASSES.items():
            made = getattr(module(file), name)
            self.assertEqual(made.__module__, "evenmarket." + file)
            for method, arguments in methods.items():
                with self.subTest(name=name, method=method):
                    found = vars(made)[method]
                    self.assertEqual(isinstance(found, classmethod), method == "read")
                    self.assertEqual(str(inspect.signature(getattr(found, "__func__", found))), arguments)


class Errors(unittest.TestCase):

    def test_market_error(self):
        self.assertEqual(MarketError.__bases__, (ValueError,))

    def test_directly_below_market_error(self):
        for file, errors in ERRORS.items():
            for name in errors:
                with self.subTest(name=name):
                    error = getattr(module(file), name)
                    self.assertEqual(error.__bases__, (MarketError,))
                    self.assertEqual(error.__module__, "evenmarket." + file)

    def test_any_values_are_kept(self):
        values = [None, True, False, 0, -7, "", "ann", [1, [2]], (1, (2,)), {1: {2: 3}}, (), [], {}]
        for file, errors in ERRORS.items():
            for name, fields in errors.items():
                error = getattr(module(file), name)
                for value in values:
                    with self.subTest(name=name, value=value):
                        told = [value] + [[value]] * (len(fields) - 1)
                        for made in (error(*told[:len(fields)]), error(**dict(zip(fields, told)))):
                            self.assertEqual(sorted(vars(made)), sorted(fields))
                            for field, one in zip(fields, told):
                                self.assertIs(getattr(made, field), one)

    def test_no_other_errors(self):
        for path in pathlib.Path(module("errors").__file__).parent.glob("*.py"):
            file = path.stem
            found = [name for name, value in vars(module(file)).items()
                     if isinstance(value, type) and issubclass(value, Exception)
                     and value.__module__ == "evenmarket." + file and value is not MarketError]
            self.assertEqual(sorted(found), sorted(ERRORS.get(file, {})))

    def test_can_be_caught_as_value_error(self):
        with self.assertRaises(ValueError):
            raise module("errors").BadText()


if __name__ == "__main__":
    unittest.main()
