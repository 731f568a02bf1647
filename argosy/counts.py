"""How many ways there are to take some out of many."""


def ways(many, taken):
    """How many ways there are to take so many out of many things; none where so many aren't there."""
    if not 0 <= taken <= many:
        return 0
    told = 1
    for at in range(taken):
        # What is reckoned so far is the ways to take at + 1 of them, so nothing is left over.
        told = told * (many - at) // (at + 1)
    return told
