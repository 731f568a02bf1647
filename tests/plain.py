"""What the tests share: all that a yard and a diary tell, a plain yard to compare it with, and facts drawn by lot."""

import itertools
import unittest
from fractions import Fraction

from argosy.diary import Diary
from argosy.errors import NoDeed
from argosy.yard import Yard

BIG = 10 ** 30 - 1


class Refusing(unittest.TestCase):
    """Tests of calls that are refused."""

    def assert_refused(self, refusal, *calls):
        for call in calls:
            with self.assertRaises(refusal) as refused:
                call()
            self.assertIs(type(refused.exception), refusal)


def told(yard):
    """All that a yard tells of what is there."""
    names, timbers = yard.names(), range(1, yard.felled() + 1)
    return {
        "days": (yard.today(), yard.slip(), yard.felled()),
        "timbers": (yard.loose(), yard.lost(), [(one, yard.place(one), yard.line(one)) for one in timbers]),
        "boats": (yard.boats(), [(name, yard.boat(name)) for name in yard.boats()]),
        "names": (names, [(name, yard.first(name), yard.down(name), yard.chain(name)) for name in names]),
        "owed": ([(name, yard.owed(name)) for name in names], [(one, yard.owed_on(one)) for one in timbers]),
        "money": (yard.owed_all(), yard.lent(), yard.paid()),
    }


def told_of(diary):
    """All that a diary tells of its deeds, and what could be done again, last taken back first."""
    other, again = diary.twin(), []
    while True:
        try:
            other.redo()
        except NoDeed:
            return (diary.slip(), diary.deeds(), diary.facts(), again)
        again.append(other.deeds()[-1])


def diary_of(facts, slip=12):
    """A diary that was told pairs of a day and a fact."""
    diary = Diary(slip)
    for day, fact in facts:
        diary.tell(day, fact)
    return diary


def yard_that_heard(slip, facts, day):
    """A new yard that heard those of the facts, pairs (day, fact), up to a day, and passed on to it."""
    yard = Yard(slip)
    for known, fact in sorted(facts, key=lambda pair: pair[0]):
        if known <= day:
            yard.enter(known, fact)
    yard.pass_to(day)
    return yard


def told_by_a_yard_that_passed_to(day, wished):
    """What is told by a yard of which nothing but the day is other."""
    return dict(wished, days=(day,) + wished["days"][1:])


def kinds(thing):
    """The kinds of a thing and of all within it, so that True isn't taken for 1, or a list for a tuple."""
    if type(thing) is dict:
        return {key: kinds(value) for key, value in thing.items()}
    if type(thing) in (list, tuple):
        return (type(thing), [kinds(one) for one in thing])
    return type(thing)


def some_of(things):
    """All tuples of some of the things, none and all among them, in their order."""
    return [row for many in range(len(things) + 1) for row in itertools.combinations(things, many)]


def plainly_same(one, other):
    both = [timber for timber in set(one) if timber in other]
    return len(both) > 0 and 2 * len(both) > len(set(one)) and 2 * len(both) > len(set(other))


def entered(yard, facts):
    """Enters the facts on the days behind the yard's, and tells the words."""
    return [yard.enter(day, fact) for day, fact in enumerate(facts, yard.today() + 1)]


def timbers(many, first=1):
    return tuple(range(first, first + many))


def yard_of(sets, felled=60, slip=12):
    """A yard in which timbers are felled on day 1, and these sets, boats 20, 21 and so on, are made on day 2."""
    yard = Yard(slip)
    assert entered(yard, [("fell", felled), ("refit", (), tuple(sets))]) == ["good", "good"]
    return yard


def part(money):
    return (money.numerator, money.denominator)


class PlainYard:
    """A yard that keeps for each day where all timbers lie, and reckons the rest from there."""

    def __init__(self, slip):
        self._slip = slip
        self._day = 0
        self._days = [(0, {})]
        self._money = {}
        self._lent = 0
        self._paid = Fraction(0)

    def where(self):
        return self._days[-1][1]

    def enter(self, day, fact):
        self._day = day
        where = dict(self.where())
        debts = dict(self._money)
        word = getattr(self, "_" + fact[0])(where, debts, *fact[1:])
        if word == "good":
            self._days.append((day, where))
            self._money = debts
        return word

    def pass_to(self, day):
        self._day = day

    @staticmethod
    def boats_of(where):
        boats = {}
        for timber, place in where.items():
            if place[0] == "boat":
                boats.setdefault(place[1], set()).add(timber)
        return boats

    def go_down(self, debts, name, timbers):
        each = debts.pop(("name", name), Fraction(0)) / len(timbers)
        for timber in timbers:
            debts["timber", timber] = debts.get(("timber", timber), Fraction(0)) + each

    def take_over(self, where, debts):
        for timber, place in where.items():
            if place[0] == "boat":
                owed = debts.pop(("timber", timber), Fraction(0))
                debts["name", place[1]] = debts.get(("name", place[1]), Fraction(0)) + owed

    @staticmethod
    def goes_on(ahead, behind):
        both = len(ahead & behind)
        return Fraction(both, len(ahead)) > Fraction(1, 2) and both > len(behind) - both

    def _fell(self, where, debts, many):
        if len(where) + many > 60:
            return "full"
        for _ in range(many):
            where[len(where) + 1] = ("loose",)
        return "good"

    def _refit(self, where, debts, names, sets):
        boats = self.boats_of(where)
        if set(names) - set(boats):
            return "noboat"
        free = {timber for timber, place in where.items() if place == ("loose",)}
        free = free.union(*(boats[name] for name in names))
        if set().union(*sets) - free:
            return "nothere"
        if len(set(boats) - set(names)) + len(sets) > 8:
            return "full"
        for name in names:
            for timber in boats[name]:
                where[timber] = ("loose",)
        going = set()
        for place, timbers in enumerate(sets):
            bears = [name for name in names if self.goes_on(boats[name], set(timbers))]
            going.update(bears)
            for timber in timbers:
                where[timber] = ("boat", (bears + [10 * self._day + place])[0])
        for name in set(names) - going:
            self.go_down(debts, name, boats[name])
        self.take_over(where, debts)
        return "good"

    def _storm(self, where, debts, timbers):
        if any(where.get(timber, ("lost",)) == ("lost",) for timber in timbers):
            return "nothere"
        for name, boat in self.boats_of(where).items():
            left = boat - set(timbers)
            if 2 * len(left) <= len(boat):
                self.go_down(debts, name, boat)
                for timber in left:
                    where[timber] = ("loose",)
        for timber in timbers:
            where[timber] = ("lost",)
        return "good"

    def _find(self, where, debts, timbers):
        if any(where.get(timber) != ("lost",) for timber in timbers):
            return "nothere"
        for timber in timbers:
            where[timber] = ("loose",)
        return "good"

    def _lend(self, where, debts, name, coins):
        if ("boat", name) not in where.values():
            return "noboat"
        debts["name", name] = debts.get(("name", name), Fraction(0)) + coins
        self._lent += coins
        return "good"

    def _pay(self, where, debts, name, coins):
        if ("boat", name) not in where.values():
            return "noboat"
        if debts.get(("name", name), 0) < coins:
            return "toomuch"
        debts["name", name] -= coins
        self._paid += coins
        return "good"

    def _clear(self, where, debts, timber):
        if where.get(timber) not in (("loose",), ("lost",)):
            return "nothere"
        owed = debts.pop(("timber", timber), Fraction(0))
        self._paid += owed
        return "good" if owed else "nothing"

    def today(self):
        return self._day

    def slip(self):
        return self._slip

    def felled(self):
        return len(self.where())

    def loose(self):
        return [timber for timber in sorted(self.where()) if self.where()[timber] == ("loose",)]

    def lost(self):
        return [timber for timber in sorted(self.where()) if self.where()[timber] == ("lost",)]

    def boats(self):
        return sorted(self.boats_of(self.where()))

    def boat(self, name):
        return sorted(self.boats_of(self.where())[name])

    def place(self, timber):
        return self.where()[timber]

    def names(self):
        return sorted({name for _, where in self._days for name in self.boats_of(where)})

    def chain(self, name):
        chain = []
        for day, where in self._days:
            boat = tuple(sorted(self.boats_of(where).get(name, ())))
            if boat and (not chain or chain[-1][1] != boat):
                chain.append((day, boat))
        return chain

    def first(self, name):
        return list(self.chain(name)[0][1])

    def down(self, name):
        afloat = [(day, name in self.boats_of(where)) for day, where in self._days]
        ends = [day for (_, ahead), (day, behind) in zip(afloat, afloat[1:]) if ahead and not behind]
        return ends[0] if ends else None

    def line(self, timber):
        line = []
        for day, where in self._days:
            if timber in where and (not line or line[-1][1] != where[timber]):
                line.append((day, where[timber]))
        return line

    def owed(self, name):
        return part(self._money.get(("name", name), Fraction(0)))

    def owed_on(self, timber):
        return part(self._money.get(("timber", timber), Fraction(0)))

    def owed_all(self):
        return part(sum(self._money.values(), Fraction(0)))

    def lent(self):
        return self._lent

    def paid(self):
        return part(self._paid)


def some_name(chance, yard):
    """A name, mostly of a boat afloat, else one that went down or was never given."""
    names = yard.boats() if chance.randrange(8) else yard.names() + [10 * (yard.today() + 1), 4007]
    return chance.choice(names or [10])


def dealt(chance, timbers, slip, most):
    """Sets of some of the timbers."""
    left, sets = list(timbers), []
    while left and len(sets) < most:
        many = min(len(left), chance.randint(1, slip))
        sets.append(tuple(left[:many]))
        del left[:many]
    return sets


def some_refit(chance, yard):
    names = chance.sample(yard.boats(), chance.randint(0, min(3, len(yard.boats()))))
    boats = [yard.boat(name) for name in names]
    loose = chance.sample(yard.loose(), min(len(yard.loose()), chance.randrange(6)))
    if boats and chance.randrange(3):
        # Bit by bit: each boat has some other timbers, so that many of them go on.
        sets = []
        for boat in boats:
            chance.shuffle(boat)
            kept = boat[chance.randrange(1 + len(boat) // 2):]
            new = [loose.pop() for _ in range(chance.randrange(3)) if loose]
            sets.append(tuple((kept + new)[:yard.slip()]))
    else:
        timbers = [timber for boat in boats for timber in boat] + loose
        chance.shuffle(timbers)
        sets = dealt(chance, timbers, yard.slip(), chance.randint(0, 4))
    chance.shuffle(sets)
    if not names and not sets:
        sets = [(chance.randint(1, 60),)]
    if chance.randrange(15) == 0:
        names = (names + [some_name(chance, yard)])[-1:]
    return ("refit", tuple(names), tuple(sets))


def some_fact(chance, yard):
    """A sound fact, good or idle, drawn by lot."""
    lot = chance.randrange(20)
    if yard.felled() == 0 or lot == 0:
        return ("fell", chance.choice([1, 5, 12, 20, 60]))
    if lot <= 8:
        return some_refit(chance, yard)
    if lot <= 11:
        felled = max(yard.felled(), 3)
        return ("storm", tuple(chance.sample(range(1, min(60, felled + chance.randrange(2)) + 1), chance.randint(1, 3))))
    if lot <= 13:
        timbers = yard.lost() if yard.lost() and chance.randrange(5) else list(range(1, yard.felled() + 1))
        return ("find", tuple(chance.sample(timbers, chance.randint(1, min(3, len(timbers))))))
    if lot <= 16:
        return ("lend", some_name(chance, yard), chance.choice([1, 7, 100, 10 ** 6]))
    if lot <= 17:
        name = some_name(chance, yard)
        owed = yard.owed(name) if name in yard.names() else (0, 1)
        return ("pay", name, max(1, min(10 ** 6, owed[0] // owed[1] + chance.choice([-1, 0, 0, 1]))))
    owing = [timber for timber in range(1, yard.felled() + 1) if yard.owed_on(timber) != (0, 1)]
    return ("clear", chance.choice(owing) if owing and chance.randrange(3) else chance.randint(1, 60))


def drawn_facts(chance, slip, days):
    """Pairs (day, fact) for these days, rising, each fact drawn by what is there then."""
    yard, facts = Yard(slip), []
    for day in days:
        facts.append((day, some_fact(chance, yard)))
        yard.enter(*facts[-1])
    return facts
