"""The yard: timbers, boats and their names by days, as facts are entered."""

from argosy.bounds import MOST_BOATS, MOST_TIMBERS, name_of, need_day, need_slip
from argosy.debts import Debts
from argosy.errors import BadFact, Late, NoBoat, NoName, NoTimber
from argosy.facts import sound
from argosy.likeness import paired, same
from argosy.timbers import apart, rising

LOOSE = ("loose",)
LOST = ("lost",)


def enter_fell(yard, fact):
    """Enters a fell that is sound and on time, and tells its word; so with the words below."""
    last = yard.felled() + fact[1]
    if last > MOST_TIMBERS:
        return "full"
    for timber in range(yard.felled() + 1, last + 1):
        yard.move(timber, LOOSE)
    return "good"


def refit_word(yard, names, sets):
    """The word of a refit."""
    afloat = yard.boats()
    if not all([name in afloat for name in names]):
        return "noboat"
    at_hand = yard.loose() + [timber for name in names for timber in yard.boat(name)]
    if not all([timber in at_hand for timbers in sets for timber in timbers]):
        return "nothere"
    if len(afloat) - len(names) + len(sets) > MOST_BOATS:
        return "full"
    return "good"


def names_behind(yard, names, sets):
    """The name of each set's boat, in the order of the sets."""
    ahead = [yard.boat(name) for name in names]
    going = {to: names[at] for at, to in paired(ahead, [list(timbers) for timbers in sets])}
    return [going.get(place, name_of(yard.day, place)) for place in range(len(sets))]


def enter_refit(yard, fact):
    """Boats are pulled apart, and boats are made."""
    word, names, sets = fact
    told = refit_word(yard, names, sets)
    if told != "good":
        return told
    behind = names_behind(yard, names, sets)
    pulled = [timber for name in names for timber in yard.boat(name)]
    # First the names go down, so that the boats behind take over what was parted on their timbers.
    for name in names:
        if name not in behind:
            yard.sink(name)
    for timber in apart(pulled, [timber for timbers in sets for timber in timbers]):
        yard.move(timber, LOOSE)
    for name, timbers in zip(behind, sets):
        yard.launch(name, timbers)
    return "good"


def strike_boat(yard, name, timbers):
    """What a storm over the timbers does to a boat: it goes on with what is left of it, or goes down."""
    boat = yard.boat(name)
    left = apart(boat, timbers)
    if same(boat, left):
        yard.launch(name, left)
    else:
        yard.sink(name)
        for timber in left:
            yard.move(timber, LOOSE)


def enter_storm(yard, fact):
    """Timbers are lost."""
    timbers = fact[1]
    if not all([yard.lies(timber) not in (None, LOST) for timber in timbers]):
        return "nothere"
    # A boat that loses nothing is left as it was: it goes on with the same timbers.
    for name in yard.boats():
        strike_boat(yard, name, timbers)
    for timber in timbers:
        yard.move(timber, LOST)
    return "good"


def enter_find(yard, fact):
    """Lost timbers are found again."""
    timbers = fact[1]
    if not all([yard.lies(timber) == LOST for timber in timbers]):
        return "nothere"
    for timber in timbers:
        yard.move(timber, LOOSE)
    return "good"


def enter_lend(yard, fact):
    """Coins are lent on a boat."""
    word, name, coins = fact
    if not yard.is_afloat(name):
        return "noboat"
    yard.debts.lend(name, coins)
    return "good"


def enter_pay(yard, fact):
    """Coins are paid for a boat."""
    word, name, coins = fact
    if not yard.is_afloat(name):
        return "noboat"
    if yard.debts.is_too_much(name, coins):
        return "toomuch"
    yard.debts.pay(name, coins)
    return "good"


def enter_clear(yard, fact):
    """What is owed on a timber is paid."""
    timber = fact[1]
    if yard.lies(timber) not in (LOOSE, LOST):
        return "nothere"
    if yard.debts.owed_on(timber) == (0, 1):
        return "nothing"
    yard.debts.settle(timber)
    return "good"


ENTER = {
    "fell": enter_fell,
    "refit": enter_refit,
    "storm": enter_storm,
    "find": enter_find,
    "lend": enter_lend,
    "pay": enter_pay,
    "clear": enter_clear,
}


class Yard:
    """A yard of boats. The last pair of a line or a chain tells where a timber lies or what a boat is made of."""

    def __init__(self, slip):
        need_slip(slip)
        self.most = slip
        self.day = 0
        self.lines = {}
        self.chains = {}
        self.ends = {}
        self.debts = Debts()

    def enter(self, day, fact):
        """The word with which a fact is answered; BadNumber, BadFact, Late."""
        need_day(day)
        if not sound(self.most, fact):
            raise BadFact("the fact isn't sound for this slip")
        if day <= self.day:
            raise Late("the day isn't later than the yard's")
        self.day = day
        entered = ENTER[fact[0]]
        return entered(self, fact)

    def pass_to(self, day):
        """The yard's day is that day; BadNumber, Late."""
        need_day(day)
        if day < self.day:
            raise Late("the day is earlier than the yard's")
        self.day = day

    def lies(self, timber):
        """The place of a timber, or None where it wasn't felled."""
        if timber not in self.lines:
            return None
        return self.lines[timber][-1][1]

    def move(self, timber, place):
        """The timber lies at this place behind today's fact."""
        if self.lies(timber) != place:
            self.lines.setdefault(timber, []).append((self.day, place))

    def is_afloat(self, name):
        """True where a boat of that name is afloat."""
        return name in self.ends and self.ends[name] is None

    def launch(self, name, timbers):
        """The boat of this name, founded or going on, is made of these timbers behind today's fact."""
        boat = tuple(rising(timbers))
        if name not in self.chains:
            self.chains[name] = []
            self.ends[name] = None
        chain = self.chains[name]
        if chain == [] or chain[-1][1] != boat:
            chain.append((self.day, boat))
        for timber in boat:
            self.move(timber, ("boat", name))
        self.debts.take_over(name, boat)

    def sink(self, name):
        """The name goes down today. Where its timbers lie then is for the fact to tell."""
        self.debts.part(name, self.boat(name))
        self.ends[name] = self.day

    def today(self):
        """The yard's day."""
        return self.day

    def slip(self):
        """The slip: no boat has more timbers."""
        return self.most

    def felled(self):
        """How many timbers were felled."""
        return len(self.lines)

    def lying(self, place):
        """The timbers that lie at a place."""
        return rising([timber for timber in self.lines if self.lies(timber) == place])

    def loose(self):
        """The loose timbers."""
        return self.lying(LOOSE)

    def lost(self):
        """The lost timbers."""
        return self.lying(LOST)

    def boats(self):
        """The names afloat."""
        return sorted([name for name in self.ends if self.ends[name] is None])

    def boat(self, name):
        """The timbers of a boat; NoBoat where none of that name is afloat."""
        if not self.is_afloat(name):
            raise NoBoat("no boat of that name is afloat")
        return list(self.chains[name][-1][1])

    def place(self, timber):
        """Where a timber lies; NoTimber where it wasn't felled."""
        return self.line(timber)[-1][1]

    def names(self):
        """All names ever given."""
        return sorted(self.chains)

    def first(self, name):
        """The timbers with which a name was founded; NoName where it was never given."""
        return list(self.chain(name)[0][1])

    def down(self, name):
        """The day on which a name went down, or None; NoName."""
        if name not in self.ends:
            raise NoName("that name was never given")
        return self.ends[name]

    def chain(self, name):
        """The pairs (day, timbers) of a name; NoName."""
        if name not in self.chains:
            raise NoName("that name was never given")
        return list(self.chains[name])

    def line(self, timber):
        """The pairs (day, place) of a timber; NoTimber where it wasn't felled."""
        if timber not in self.lines:
            raise NoTimber("that timber wasn't felled")
        return list(self.lines[timber])

    def owed(self, name):
        """What is owed on a name, a part; NoName."""
        if name not in self.chains:
            raise NoName("that name was never given")
        return self.debts.owed(name)

    def owed_on(self, timber):
        """What is owed on a timber, a part; NoTimber."""
        if timber not in self.lines:
            raise NoTimber("that timber wasn't felled")
        return self.debts.owed_on(timber)

    def owed_all(self):
        """All that is owed together, a part."""
        return self.debts.owed_all()

    def lent(self):
        """All that was lent, a number."""
        return self.debts.lent()

    def paid(self):
        """All that was paid and cleared, a part."""
        return self.debts.paid()

    def twin(self):
        """Another yard, in all things alike, that goes its own way."""
        other = Yard(self.most)
        other.day = self.day
        other.lines = {timber: list(line) for timber, line in self.lines.items()}
        other.chains = {name: list(chain) for name, chain in self.chains.items()}
        other.ends = dict(self.ends)
        other.debts = self.debts.twin()
        return other
