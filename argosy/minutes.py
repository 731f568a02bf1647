"""The minutes of a diary: its deeds as rows of a text, written and read."""

from argosy.diary import Diary
from argosy.errors import ArgosyError, BadText
from argosy.words import read_fact, read_numbers, shown


def shown_deed(deed):
    """The row that writes a deed."""
    if deed[0] == "tell":
        return f"tell {deed[1]} {shown(deed[2])}"
    return f"strike {deed[1]}"


def read_deed(text):
    """The deed that a row writes, ("tell", day, fact) or ("strike", day); BadText where it writes none."""
    word, *words = text.split(" ")
    if word == "strike" and len(words) == 1:
        return (word,) + read_numbers(words)
    if word == "tell" and len(words) > 1:
        return (word,) + read_numbers(words[:1]) + (read_fact(" ".join(words[1:])),)
    raise BadText("a deed is tell, a day and a fact, or strike and a day")


def read_slip(text):
    """The number that the first row writes; BadText where it isn't so made."""
    word, *words = text.split(" ")
    if word != "yard" or len(words) != 1:
        raise BadText("the first row is yard and a slip")
    return read_numbers(words)[0]


def do_deed(diary, deed):
    """Tells a diary a deed."""
    if deed[0] == "tell":
        diary.tell(deed[1], deed[2])
    else:
        diary.strike(deed[1])


def told_rows(first, rows):
    """A new diary that was told what the rows write; any refusal where one of them can't be told."""
    diary = Diary(read_slip(first))
    for row in rows:
        do_deed(diary, read_deed(row))
    return diary


def written(diary):
    """The minutes of a diary, a text."""
    return "\n".join([f"yard {diary.slip()}"] + [shown_deed(deed) for deed in diary.deeds()])


def read_minutes(text):
    """The diary that was told the deeds of the minutes; BadText."""
    first, *rows = text.split("\n")
    try:
        return told_rows(first, rows)
    except ArgosyError:
        raise BadText("the text is no minutes of a diary") from None
