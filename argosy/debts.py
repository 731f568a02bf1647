"""What is owed on boats, by their names, and on timbers."""

from argosy.parts import divisor, lowest


class Debts:
    """The debts of a yard, and what was lent and settled in all.

    Sums of money are kept as whole numbers of shares, as many to the coin for all of them. So they are brought to
    lowest terms only where they are told: while timbers go from boat to boat, their bottoms can grow long.
    """

    def __init__(self):
        self.shares = 1
        self.by_name = {}
        self.by_timber = {}
        self.coins = 0
        self.settled = 0

    def owed(self, name):
        """What is owed on a name, a part."""
        return lowest(self.by_name.get(name, 0), self.shares)

    def owed_on(self, timber):
        """What is owed on a timber, a part."""
        return lowest(self.by_timber.get(timber, 0), self.shares)

    def owed_all(self):
        """All that is owed together, a part."""
        return lowest(sum(self.by_name.values()) + sum(self.by_timber.values()), self.shares)

    def lent(self):
        """All that was lent, a number of coins."""
        return self.coins

    def paid(self):
        """All that was paid and settled, a part."""
        return lowest(self.settled, self.shares)

    def lend(self, name, coins):
        """So many coins are lent on a name."""
        self.by_name[name] = self.by_name.get(name, 0) + coins * self.shares
        self.coins += coins

    def is_too_much(self, name, coins):
        """True where less than so many coins is owed on a name."""
        return self.by_name.get(name, 0) < coins * self.shares

    def pay(self, name, coins):
        """So many coins, no more than are owed, are paid for a name."""
        self.by_name[name] -= coins * self.shares
        self.settled += coins * self.shares

    def settle(self, timber):
        """All that is owed on a timber is paid."""
        self.settled += self.by_timber.pop(timber, 0)

    def make_smaller(self, many):
        """Each share becomes so many smaller ones."""
        self.shares = many * self.shares
        self.by_name = {name: many * owed for name, owed in self.by_name.items()}
        self.by_timber = {timber: many * owed for timber, owed in self.by_timber.items()}
        self.settled = many * self.settled

    def part(self, name, timbers):
        """What is owed on a name is owed evenly on the timbers, a list of one or more, each once."""
        many = len(timbers)
        self.make_smaller(many // divisor(self.by_name.get(name, 0), many))
        each = self.by_name.pop(name, 0) // many
        for timber in timbers:
            self.by_timber[timber] = self.by_timber.get(timber, 0) + each

    def take_over(self, name, timbers):
        """What is owed on the timbers is owed on the name, and on the timbers no more."""
        owed = self.by_name.get(name, 0)
        for timber in timbers:
            owed += self.by_timber.pop(timber, 0)
        self.by_name[name] = owed

    def twin(self):
        """Other debts, in all things alike."""
        other = Debts()
        other.shares = self.shares
        other.by_name = dict(self.by_name)
        other.by_timber = dict(self.by_timber)
        other.coins = self.coins
        other.settled = self.settled
        return other
