"""Equations modulo 2, as integers: the bit 0 is what the sum is, the bits from 1 on tell the unknowns in it."""


def rank_of(equations):
    """How many of the equations do not follow from others, None if they cannot all hold."""
    rows = {}
    for equation in equations:
        left = equation
        # What is left has no unknown that is the greatest one of an elder row.
        while left.bit_length() in rows:
            left = left ^ rows[left.bit_length()]
        if left == 1:
            return None
        if left:
            rows[left.bit_length()] = left
    return len(rows)


def solution_number(many, equations):
    """How many solutions the equations of so many unknowns have."""
    rank = rank_of(equations)
    return 0 if rank is None else 1 << many - rank
