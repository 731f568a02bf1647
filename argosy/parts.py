"""Parts: pairs (top, bottom) in lowest terms, the bottom above 0; nought is (0, 1)."""


def divisor(one, other):
    """The greatest number that divides both, neither of them below nought."""
    while other > 0:
        one, other = other, one % other
    return one


def lowest(top, bottom):
    """The part that is top by bottom."""
    shared = divisor(abs(top), bottom)
    return (top // shared, bottom // shared)


def plus(one, other):
    """The sum of two parts."""
    top, bottom = one
    other_top, other_bottom = other
    return lowest(top * other_bottom + other_top * bottom, bottom * other_bottom)


def minus(one, other):
    """The first part less the second."""
    top, bottom = other
    return plus(one, (-top, bottom))


def less(one, other):
    """True where the first part is less than the second, else False."""
    top, bottom = one
    other_top, other_bottom = other
    # Both bottoms are above 0, so multiplying by them doesn't turn the order.
    return top * other_bottom < other_top * bottom
