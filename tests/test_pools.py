"""Pools, single units, shares, texts [41] to [43], [47]."""

import random
import unittest

from evenmarket.errors import BadAmount, BadText, BadUnit, MarketError
from evenmarket.pools import BadPool, NoShares, NoUnit, Pool
from tests.checks import Case, ODD, RESERVED, WRONG_NAMES

NO_INTEGERS = [True, False, None, "1", (), [], {}, [1], (1,), 1.0]
POOL = Pool("corn", 100, 11, 50)


def parts(pool):
    return (pool.unit, pool.money, pool.stock, pool.shares)


def random_pool(pick):
    return Pool("corn", pick.choice([pick.randrange(1, 30), pick.randrange(1, 10000)]), pick.randrange(1, 100),
                pick.choice([pick.randrange(1, 30), pick.randrange(1, 10000)]))


class Pools(Case):

    def test_attributes(self):
        self.same([parts(Pool("a", 1, 1, 1)), parts(Pool(unit="abcdefgh", money=9999, stock=99, shares=9999))],
                  [("a", 1, 1, 1), ("abcdefgh", 9999, 99, 9999)])

    def test_errors_in_order(self):
        for wrong in RESERVED + WRONG_NAMES + ODD:
            self.raises_given(BadUnit, wrong, Pool, wrong, 0, 0, 0)
        for wrong in [0, -1, 10000, 10 ** 40] + NO_INTEGERS:
            self.refused("money", wrong, "corn", wrong, 0, 0)
            self.refused("shares", wrong, "corn", 1, 1, wrong)
        for wrong in [0, -1, 100, 9999] + NO_INTEGERS:
            self.refused("stock", wrong, "corn", 1, wrong, 0)

    def refused(self, field, value, *told):
        with self.assertRaises(BadPool) as caught:
            Pool(*told)
        self.assertEqual(caught.exception.field, field)
        self.assertIs(caught.exception.value, value)

    def test_equal(self):
        self.assertTrue(POOL == Pool("corn", 100, 11, 50))
        self.assertFalse(POOL != Pool("corn", 100, 11, 50))
        for other in [Pool("gas", 100, 11, 50), Pool("corn", 101, 11, 50), Pool("corn", 100, 12, 50),
                      Pool("corn", 100, 11, 51), str(POOL), parts(POOL), None]:
            self.assertFalse(POOL == other)
            self.assertTrue(POOL != other)

    def test_pools_never_change(self):
        pool = Pool("corn", 100, 11, 50)
        pool.sold(3)
        pool.bought(3)
        pool.joined(10, 2)
        pool.left(10)
        pool.asks(3).clear()
        pool.bids(3).clear()
        self.assertTrue(pool == POOL)


class Units(Case):

    def test_a_stock_of_1_and_2(self):
        one, two = Pool("corn", 100, 1, 50), Pool("corn", 100, 2, 50)
        self.same([one.ask(), one.asks(3), two.ask(), two.asks(3)], [None, [], 100, [100]])
        self.raises(NoUnit, {}, one.sold)
        self.raises(NoUnit, {}, one.sold, 1)
        self.same(parts(two.sold()), ("corn", 200, 1, 50))
        self.raises(NoUnit, {}, two.sold, 2)

    def test_a_bid_of_none(self):
        self.same([Pool("corn", 1, 1, 1).bid(), Pool("corn", 2, 1, 1).bid(), Pool("corn", 5, 5, 1).bid(),
                   Pool("corn", 6, 5, 1).bid()], [None, 1, None, 1])
        self.raises(NoUnit, {}, Pool("corn", 5, 5, 1).bought)
        self.raises(NoUnit, {}, Pool("corn", 6, 5, 1).bought, 2)
        self.same([Pool("corn", 6, 5, 1).bids(9), Pool("corn", 5, 5, 1).bids(9)], [[1], []])

    def test_prices_above_99(self):
        pool = Pool("corn", 9999, 3, 1)
        self.same([pool.ask(), pool.bid(), pool.asks(9)], [5000, 2499, [5000, 14999]])
        self.same(parts(pool.sold(2)), ("corn", 29998, 1, 1))

    def test_rounding(self):
        self.same([Pool("corn", money, 4, 1).ask() for money in range(1, 8)], [1, 1, 1, 2, 2, 2, 3])
        self.same([Pool("corn", money, 3, 1).bid() for money in range(3, 10)], [None, 1, 1, 1, 1, 2, 2])

    def test_counts(self):
        self.same([POOL.asks(0), POOL.bids(0), POOL.asks(count=2), POOL.bids(count=1)], [[], [], [10, 13], [8]])
        self.assertTrue(POOL.sold(0) == POOL and POOL.bought(count=0) == POOL)
        self.assertTrue(Pool("corn", 5, 5, 1).bought(0) == Pool("corn", 5, 5, 1))
        self.same([len(POOL.asks(10)), len(POOL.asks(11)), len(POOL.asks(10 ** 40))], [10, 10, 10])
        self.same(POOL.sold(count=10).stock, 1)
        for many in [11, 10 ** 40]:
            self.raises(NoUnit, {}, POOL.sold, many)
        many = len(POOL.bids(10 ** 40))
        self.same(POOL.bought(many).bid(), None)
        self.raises(NoUnit, {}, POOL.bought, many + 1)

    def test_bad_counts(self):
        for wrong in [-1, -10 ** 40] + NO_INTEGERS:
            for call in (POOL.sold, POOL.bought, POOL.asks, POOL.bids):
                self.raises_given(BadAmount, wrong, call, wrong)
        self.raises(BadAmount, {"given": -1}, Pool("corn", 1, 1, 1).sold, -1)

    def test_what_the_prices_say(self):
        pick = random.Random(18)
        for _ in range(200):
            pool = random_pool(pick)
            self.check_prices(pool)
            one, prices = pool, []
            while one.ask() is not None:
                prices.append(one.ask())
                after = one.sold()
                self.assertEqual(parts(after), ("corn", one.money + one.ask(), one.stock - 1, one.shares))
                self.assertGreaterEqual(after.money * after.stock, one.money * one.stock)
                one = after
                self.assertTrue(pool.sold(len(prices)) == one)
                self.check_prices(one)
            self.same(pool.asks(1000), prices)
            self.assertEqual(prices, sorted(prices))

    def test_what_the_bids_say(self):
        pick = random.Random(19)
        for _ in range(60):
            pool = random_pool(pick)
            one, prices = pool, []
            while one.bid() is not None and len(prices) < 40:
                prices.append(one.bid())
                after = one.bought()
                self.assertEqual(parts(after), ("corn", one.money - one.bid(), one.stock + 1, one.shares))
                self.assertGreaterEqual(after.money * after.stock, one.money * one.stock)
                one = after
                self.check_prices(one)
            self.assertTrue(pool.bought(len(prices)) == one)
            self.same(pool.bids(len(prices)), prices)
            self.assertEqual(prices, sorted(prices, reverse=True))

    def check_prices(self, pool):
        ask, bid = pool.ask(), pool.bid()
        if ask is not None:
            self.assertTrue(ask * (pool.stock - 1) >= pool.money > (ask - 1) * (pool.stock - 1))
        else:
            self.assertEqual(pool.stock, 1)
        if bid is not None:
            self.assertTrue(1 <= bid and bid * (pool.stock + 1) <= pool.money < (bid + 1) * (pool.stock + 1))
        else:
            self.assertLess(pool.money, pool.stock + 1)
        if ask is not None and bid is not None:
            self.assertLess(bid, ask)


class Shares(Case):

    def test_joined_in_the_measure_of_the_pool(self):
        pool, shares = Pool("corn", 100, 10, 50).joined(money=20, stock=2)
        self.same([parts(pool), shares], [("corn", 120, 12, 60), 10])

    def test_joined_otherwise(self):
        self.same([(parts(pool), shares) for pool, shares in [POOL.joined(10, 99), POOL.joined(9999, 1)]],
                  [(("corn", 110, 110, 55), 5), (("corn", 10099, 12, 54), 4)])

    def test_no_shares(self):
        for money, stock in [(0, 0), (0, 9), (9, 0), (1, 9)]:
            self.raises(NoShares, {}, POOL.joined, money, stock)
        self.same(POOL.joined(2, 1)[1], 1)
        self.raises(NoShares, {}, Pool("corn", 9999, 99, 1).joined, 9998, 99)
        self.same(Pool("corn", 9999, 99, 1).joined(9999, 99)[1], 1)

    def test_joined_errors(self):
        for wrong in [-1, -10 ** 40] + NO_INTEGERS:
            self.raises_given(BadAmount, wrong, POOL.joined, wrong, -2)
            self.raises_given(BadAmount, wrong, POOL.joined, 0, wrong)

    def test_left(self):
        self.same([(parts(pool), money, stock) for pool, money, stock in
                   [POOL.left(1), POOL.left(shares=10), POOL.left(49)]],
                  [(("corn", 98, 11, 49), 2, 0), (("corn", 80, 9, 40), 20, 2), (("corn", 2, 1, 1), 98, 10)])

    def test_left_errors(self):
        for wrong in [0, 50, 51, -1, 10 ** 40] + NO_INTEGERS:
            self.raises_given(BadAmount, wrong, POOL.left, wrong)
        self.raises(BadAmount, {"given": 1}, Pool("corn", 5, 5, 1).left, 1)

    def test_what_deeds_return_may_have_greater_numbers(self):
        pool, shares = Pool("corn", 9999, 99, 9999).joined(10 ** 20, 10 ** 20)
        self.same(parts(pool), ("corn", 9999 + 10 ** 20, 99 + 10 ** 20, 9999 + shares))
        self.same(shares, 10 ** 20)
        self.same(pool.left(10 ** 20)[1:], ((10 ** 20 * pool.money) // pool.shares, (10 ** 20 * pool.stock) // pool.shares))

    def test_no_deed_makes_a_share_worth_less(self):
        pick = random.Random(20)
        for _ in range(300):
            pool = random_pool(pick)
            money, stock = pick.randrange(0, 2 * pool.money + 2), pick.randrange(0, 2 * pool.stock + 2)
            expected = max([shares for shares in range(0, 3 * pool.shares + 3) if shares * pool.money <= money * pool.shares
                            and shares * pool.stock <= stock * pool.shares])
            if expected == 0:
                self.raises(NoShares, {}, pool.joined, money, stock)
            else:
                behind, shares = pool.joined(money, stock)
                self.same([shares, parts(behind)],
                          [expected, ("corn", pool.money + money, pool.stock + stock, pool.shares + shares)])
                self.assertTrue(self.worth_no_less(pool, behind))
                again, got_money, got_stock = behind.left(shares)
                self.assertTrue(got_money <= money and got_stock <= stock)
                self.assertTrue(self.worth_no_less(behind, again))
            if pool.shares > 1:
                shares = pick.randrange(1, pool.shares)
                behind, money, stock = pool.left(shares)
                self.same([money, stock], [shares * pool.money // pool.shares, shares * pool.stock // pool.shares])
                self.same(parts(behind), ("corn", pool.money - money, pool.stock - stock, pool.shares - shares))
                self.assertTrue(self.worth_no_less(pool, behind))

    def worth_no_less(self, before, behind):
        return behind.money * behind.stock * before.shares ** 2 >= before.money * before.stock * behind.shares ** 2


NO_TEXTS = [
    "", "pool", "pool corn 100 11", "pool corn 100 11 50 ", " pool corn 100 11 50", "pool corn 100 11 50\n",
    "pool  corn 100 11 50", "pool corn 100  11 50", "corn 100 11 50", "pool 100 11 50", "pool corn 100 11 50 50",
    "corn pool 100 11 50", "Pool corn 100 11 50", "pool corn 0100 11 50", "pool corn 100 011 50", "pool corn 100 11 050",
    "pool corn 0 11 50", "pool corn 100 0 50", "pool corn 100 11 0", "pool corn -100 11 50", "pool corn +100 11 50",
    "pool corn 1000000000 11 50", "pool corn 100 1000000000 50", "pool corn 100 11 1000000000", "pool corn 100 11 x",
    "pool money 100 11 50", "pool Corn 100 11 50", "pool abcdefghi 100 11 50", "pool corn 100 11 5.0",
    "pool corn 1_0 11 50", "pool corn 100 11 \u0665", "pool corn 100 11 \u00b2", "pool corn,100,11,50", "pool\ncorn 100 11 50",
    "pool corn 100 11 " + "1" * 40, "pool corn 000000001 1 1", "pool pool corn 100 11 50", "pool corn 100 11 ",
]


class Texts(Case):

    def test_texts(self):
        self.same([str(POOL), str(Pool("a", 1, 1, 1)), str(Pool("abcdefgh", 9999, 99, 9999))],
                  ["pool corn 100 11 50", "pool a 1 1 1", "pool abcdefgh 9999 99 9999"])
        self.same(str(POOL.joined(10 ** 12, 10 ** 12)[0])[:24], "pool corn 1000000000100 ")

    def test_read_back(self):
        for pool in [POOL, Pool("a", 1, 1, 1), Pool("abcdefgh", 9999, 99, 9999), POOL.sold(9), POOL.joined(9999, 9999)[0]]:
            self.assertTrue(Pool.read(str(pool)) == pool)
            self.assertTrue(Pool.read(text=str(pool)) == pool)

    def test_numbers_of_nine_digits(self):
        pool = Pool.read("pool corn 999999999 999999999 999999999")
        self.same(parts(pool), ("corn", 999999999, 999999999, 999999999))
        self.same(str(pool), "pool corn 999999999 999999999 999999999")

    def test_no_texts(self):
        for text in NO_TEXTS + ODD + [b"pool corn 100 11 50", ["pool", "corn", "100", "11", "50"], POOL]:
            with self.subTest(text=text):
                self.raises(BadText, {}, Pool.read, text)

    def test_texts_with_a_sign_changed(self):
        text = str(POOL)
        for at in range(len(text)):
            for sign in ["", " ", "0", "-", "a", "\n", text[at] * 2]:
                bent = text[:at] + sign + text[at + 1:]
                try:
                    pool = Pool.read(bent)
                except MarketError as error:
                    self.assertIs(type(error), BadText)
                else:
                    self.same(str(pool), bent)


if __name__ == "__main__":
    unittest.main()
