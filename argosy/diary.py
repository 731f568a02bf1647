"""The diary: facts by their days, told in any order, struck out, taken back and done again."""

from argosy.bounds import need_day, need_slip
from argosy.errors import BadFact, NoDeed, NoFact, Taken
from argosy.facts import sound
from argosy.yard import Yard


class Diary:
    """A diary of a yard. What it keeps follows from its deeds alone, so nothing else is to be taken back with them."""

    def __init__(self, slip):
        need_slip(slip)
        self.most = slip
        self.done = []
        self.undone = []

    def kept(self):
        """The facts that are kept, by their days."""
        told = {}
        for deed in self.done:
            if deed[0] == "tell":
                told[deed[1]] = deed[2]
            else:
                del told[deed[1]]
        return told

    def fact_of(self, day):
        """The fact kept for a day; BadNumber, NoFact."""
        need_day(day)
        kept = self.kept()
        if day not in kept:
            raise NoFact("no fact is kept for that day")
        return kept[day]

    def do_anew(self, deed):
        """Does a new deed, which isn't to be refused; what was taken back is forgotten."""
        self.done.append(deed)
        self.undone = []

    def tell(self, day, fact):
        """Keeps a fact for a day; BadNumber, BadFact, Taken."""
        need_day(day)
        if not sound(self.most, fact):
            raise BadFact("the fact isn't sound for this slip")
        if day in self.kept():
            raise Taken("a fact is kept for that day")
        self.do_anew(("tell", day, fact))

    def strike(self, day):
        """Keeps the fact of a day no more; BadNumber, NoFact."""
        self.fact_of(day)
        self.do_anew(("strike", day))

    def undo(self):
        """Takes the last deed back; NoDeed."""
        if self.done == []:
            raise NoDeed("no deed is there to be taken back")
        self.undone.append(self.done.pop())

    def redo(self):
        """Does again what was taken back last; NoDeed."""
        if self.undone == []:
            raise NoDeed("no deed was taken back")
        self.done.append(self.undone.pop())

    def slip(self):
        """The slip of the yard."""
        return self.most

    def deeds(self):
        """The deeds done and not taken back, ("tell", day, fact) and ("strike", day)."""
        return list(self.done)

    def facts(self):
        """The pairs (day, fact) of the facts kept, in the order of days."""
        kept = self.kept()
        return [(day, kept[day]) for day in sorted(kept)]

    def yard_behind(self, last):
        """A new yard that has heard the facts kept for days up to the last one."""
        yard = Yard(self.most)
        for day, fact in self.facts():
            if day <= last:
                yard.enter(day, fact)
        return yard

    def word(self, day):
        """The word of the fact kept for a day; BadNumber, NoFact."""
        fact = self.fact_of(day)
        return self.yard_behind(day - 1).enter(day, fact)

    def yard(self, day):
        """The yard on a day; BadNumber."""
        need_day(day)
        yard = self.yard_behind(day)
        yard.pass_to(day)
        return yard

    def known(self, many):
        """A diary that was told just the first so many deeds; NoDeed where there aren't so many."""
        if not 0 <= many <= len(self.done):
            raise NoDeed("there aren't so many deeds")
        other = Diary(self.most)
        other.done = self.done[:many]
        return other

    def twin(self):
        """Another diary, in all things alike, that goes its own way."""
        other = self.known(len(self.done))
        other.undone = list(self.undone)
        return other
