"""Purses: the coins of houses, none ever below 0."""

from allonge.errors import BadCoins, NoCoins, NoHouse, Taken


def check_amount(coins):
    """Refuse coins below 0."""
    if coins < 0:
        raise BadCoins("coins below 0")


class Purses:
    """The purses of some houses."""

    def __init__(self):
        self.held = {}

    def add_purse(self, name, coins):
        """Add a purse for a house that has none."""
        if name in self.held:
            raise Taken(name)
        check_amount(coins)
        self.held[name] = coins

    def coins(self, name):
        """Tell the coins in the purse of a house."""
        if name not in self.held:
            raise NoHouse(name)
        return self.held[name]

    def fill(self, name, coins):
        """Put coins from outside into a purse."""
        before = self.coins(name)
        check_amount(coins)
        self.held[name] = before + coins

    def spend(self, name, coins):
        """Take coins out of a purse."""
        before = self.coins(name)
        check_amount(coins)
        if before < coins:
            raise NoCoins(name)
        self.held[name] = before - coins

    def pay(self, payer, taker, coins):
        """Move coins from one purse to another one."""
        for name in (payer, taker):
            if name not in self.held:
                raise NoHouse(name)
        # The payer is spent first: refused so, the taker's purse was not touched.
        self.spend(payer, coins)
        self.fill(taker, coins)

    def total(self):
        """Tell the sum of all purses."""
        return sum(self.held.values())

    def all_names(self):
        """Tell the names of all houses in order."""
        return sorted(self.held)
