"""The desk: it keeps a diary, is told lines, and answers each with a text."""

from argosy.bounds import is_timber
from argosy.carry import fewest
from argosy.diary import Diary
from argosy.errors import BadFact, BadFleet, BadNumber, BadText, NoBoat, NoDeed, NoFact, NoName, NoTimber, Taken
from argosy.minutes import read_deed
from argosy.rivals import gathered
from argosy.words import read_numbers, shown_numbers

# How many numbers stand behind each word that asks for numbers alone.
MANY = {"undo": 0, "redo": 0, "word": 1, "boats": 1, "boat": 2, "where": 2, "owed": 2, "gathered": 2}


def read_carry(words):
    """The day, the name and the list of timbers behind the word carry; BadText."""
    if len(words) < 4 or words[2] != "/":
        raise BadText("a carry asks a day, a name, a stroke and one timber or more")
    timbers = read_numbers(words[3:])
    if not all([is_timber(timber) for timber in timbers]):
        raise BadText("a timber is a number from 1 to 60")
    return read_numbers(words[:2]) + (list(timbers),)


def read_line(text):
    """The pair of a line's word and the tuple of what it asks; BadText where it isn't so made."""
    word, *words = text.split(" ")
    if word in ("tell", "strike"):
        return (word, read_deed(text)[1:])
    if word == "carry":
        return (word, read_carry(words))
    if word not in MANY or len(words) != MANY[word]:
        raise BadText("a line is a word and what it asks")
    return (word, read_numbers(words))


def told_number(number):
    """A number as a text, or none."""
    return "none" if number is None else str(number)


def told_numbers(numbers):
    """Numbers as a text, one blank between."""
    return " ".join(shown_numbers(numbers))


def answer_tell(diary, asked):
    """The answer to a tell, of what it asks; so with the words below. What is refused is raised."""
    day, fact = asked
    diary.tell(day, fact)
    return f"told {diary.word(day)}"


def answer_strike(diary, asked):
    """The fact of that day is kept no more."""
    diary.strike(asked[0])
    return f"struck {asked[0]}"


def answer_undo(diary, asked):
    """The last deed is taken back."""
    diary.undo()
    return "undone"


def answer_redo(diary, asked):
    """What was taken back last is done again."""
    diary.redo()
    return "redone"


def answer_word(diary, asked):
    """The word of the fact kept for a day."""
    return diary.word(asked[0])


def answer_boats(diary, asked):
    """The names afloat."""
    names = diary.yard(asked[0]).boats()
    return "none" if names == [] else told_numbers(names)


def answer_boat(diary, asked):
    """The timbers of a boat."""
    day, name = asked
    return told_numbers(diary.yard(day).boat(name))


def answer_where(diary, asked):
    """The place of a timber."""
    day, timber = asked
    place = diary.yard(day).place(timber)
    return f"boat {place[1]}" if place[0] == "boat" else place[0]


def answer_owed(diary, asked):
    """What is owed on a name."""
    day, name = asked
    top, bottom = diary.yard(day).owed(name)
    return str(top) if bottom == 1 else f"{top}/{bottom}"


def answer_gathered(diary, asked):
    """Who has gathered a name."""
    day, name = asked
    return told_number(gathered(diary.yard(day), name))


def answer_carry(diary, asked):
    """The fewest refits that carry a name to some timbers."""
    day, name, timbers = asked
    return told_number(fewest(diary.yard(day).boat(name), timbers, diary.slip()))


ANSWERS = {
    "tell": answer_tell,
    "strike": answer_strike,
    "undo": answer_undo,
    "redo": answer_redo,
    "word": answer_word,
    "boats": answer_boats,
    "boat": answer_boat,
    "where": answer_where,
    "owed": answer_owed,
    "gathered": answer_gathered,
    "carry": answer_carry,
}


def answer(diary, text):
    """The answer to a line. What is refused is raised."""
    word, asked = read_line(text)
    told = ANSWERS[word]
    return told(diary, asked)


class Desk:
    """A desk with its diary."""

    def __init__(self, slip):
        self.diary = Diary(slip)

    def line(self, text):
        """The answer to a line, or the class of its refusal."""
        try:
            return answer(self.diary, text)
        except BadText:
            return "refused badtext"
        except BadNumber:
            return "refused badnumber"
        except BadFact:
            return "refused badfact"
        except BadFleet:
            return "refused badfleet"
        except Taken:
            return "refused taken"
        except NoFact:
            return "refused nofact"
        except NoDeed:
            return "refused nodeed"
        except NoBoat:
            return "refused noboat"
        except NoName:
            return "refused noname"
        except NoTimber:
            return "refused notimber"

    def now(self):
        """A twin of the desk's diary."""
        return self.diary.twin()
