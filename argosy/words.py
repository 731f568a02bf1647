"""Writing and reading numbers and facts."""

from argosy.errors import BadText

FIGURES = "0123456789"
# How many numbers stand behind each word that asks for so many.
MANY = {"fell": 1, "lend": 2, "pay": 2, "clear": 1}


def number(text):
    """The number that a text writes, or None."""
    if text == "" or not all([sign in FIGURES for sign in text]):
        return None
    if text[0] == "0" and text != "0":
        return None
    return int(text)


def shown_numbers(numbers):
    """Each number as a word."""
    return [str(one) for one in numbers]


def shown_refit(names, sets):
    """The words behind the word refit."""
    words = shown_numbers(names)
    for timbers in sets:
        words.append("/")
        words.extend(shown_numbers(timbers))
    return words


def shown(fact):
    """The text that writes a fact."""
    word = fact[0]
    if word == "refit":
        words = shown_refit(fact[1], fact[2])
    elif word in MANY:
        words = shown_numbers(fact[1:])
    else:
        words = shown_numbers(fact[1])
    return " ".join([word] + words)


def read_numbers(words):
    """The tuple of the numbers that the words write; BadText where one writes none."""
    numbers = [number(word) for word in words]
    if None in numbers:
        raise BadText("a number is written by figures, the first no 0 but in 0 itself")
    return tuple(numbers)


def parted_at_strokes(words):
    """The lists of the words ahead of the first stroke, between two, and behind the last one."""
    groups = [[]]
    for word in words:
        if word == "/":
            groups.append([])
        else:
            groups[-1].append(word)
    return groups


def read_refit(words):
    """The refit of which the words behind its word tell."""
    names, *sets = [read_numbers(group) for group in parted_at_strokes(words)]
    if len(names) == 0 and len(sets) == 0:
        raise BadText("a refit has a name or a set")
    if () in sets:
        raise BadText("a set has a number or more")
    return ("refit", names, tuple(sets))


def read_fact(text):
    """The fact that a text writes, sound or not; BadText where it writes none."""
    # A blank ahead, behind or twice leaves an empty word, which writes no number.
    word, *words = text.split(" ")
    if word == "refit":
        return read_refit(words)
    numbers = read_numbers(words)
    if word in MANY and len(numbers) == MANY[word]:
        return (word,) + numbers
    if word in ("storm", "find") and len(numbers) > 0:
        return (word, numbers)
    raise BadText("a fact is a word and as many numbers as it asks")
