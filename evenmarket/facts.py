"""The rules of a market, and the errors about what is told to it."""

from evenmarket.cover import MOST_MOVES, is_move
from evenmarket.errors import MarketError
from evenmarket.names import is_good

MOST_GOODS = 2
MOST_CONTRACTS = 2


class BadRules(MarketError):
    """A value is no list of goods, of contracts or of moves that fits here."""

    def __init__(self, given):
        self.given = given


class BadFact(MarketError):
    """A value is no fact, or none that fits here."""

    def __init__(self, given):
        self.given = given


class BadFacts(MarketError):
    """A value is no list of facts that may be told one behind the other."""

    def __init__(self, given):
        self.given = given


class NoSlip(MarketError):
    """No slip has this number."""

    def __init__(self, given):
        self.given = given


class Filled(MarketError):
    """The slip with this number is filled."""

    def __init__(self, given):
        self.given = given


class NoDeed(MarketError):
    """The slip has no deed with this index."""

    def __init__(self, given):
        self.given = given


class DayClosed(MarketError):
    """This day is closed."""

    def __init__(self, given):
        self.given = given


class NoTrade(MarketError):
    """No trade that was told of the day has this number."""

    def __init__(self, given):
        self.given = given


class NotKnown(MarketError):
    """A value is no number of facts that were told."""

    def __init__(self, given):
        self.given = given


class BadQuestion(MarketError):
    """A value is no question."""

    def __init__(self, given):
        self.given = given


class ManySlips(MarketError):
    """So many slips are open that their fillings are not told."""

    def __init__(self, given):
        self.given = given


class Rules:
    """The units of a market, and the moves against which its positions are covered; they never change."""

    def __init__(self, goods, contracts, moves):
        if not are_names(goods, MOST_GOODS, ()):
            raise BadRules(goods)
        if not are_names(contracts, MOST_CONTRACTS, goods):
            raise BadRules(contracts)
        if not are_moves(moves, contracts):
            raise BadRules(moves)
        self._goods = sorted(goods)
        self._contracts = sorted(contracts)
        self._moves = [{name: move[name] for name in move if move[name] != 0} for move in moves]

    def goods(self):
        """The ascending list of the goods."""
        return list(self._goods)

    def contracts(self):
        """The ascending list of the contracts."""
        return list(self._contracts)

    def moves(self):
        """The list of the moves, without changes of 0."""
        return [{name: move[name] for name in move} for move in self._moves]

    def __eq__(self, other):
        return (isinstance(other, Rules) and self._goods == other._goods and self._contracts == other._contracts
                and self._moves == other._moves)


def are_names(value, most, others):
    """Whether any value is a list of at most so many different names of goods or contracts, none of them of others."""
    if not isinstance(value, (list, tuple)) or not all([is_good(name) and name not in others for name in value]):
        return False
    return len(set(value)) == len(value) <= most


def are_moves(value, contracts):
    """Whether any value is a list of moves with these contracts alone that begins with the empty dict."""
    if not isinstance(value, (list, tuple)) or not 1 <= len(value) <= MOST_MOVES:
        return False
    if not all([is_move(move) and all([name in contracts for name in move]) for move in value]):
        return False
    return len(value[0]) == 0
