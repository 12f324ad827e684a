"""Polynomials of tables of ways, and of the pairs of numbers that holes have."""

from stringrooms.helping import solved_whole
from stringrooms.waytables import way_table


def way_polynomial(plan):
    """Return the SIZE + 1 coefficients of the determinant of x times the table of ways plus it turned over."""
    table = way_table(plan)
    about = list(zip(*table))
    # No coefficient is greater than all sums of rows multiplied: with an x that
    # is twice as great, one determinant tells all of them one behind the other.
    most = 1
    for row, column in zip(table, about):
        most = most * (sum(row) + sum(column))
    great = 2 * most + 1
    rows = [[great * entry + other for entry, other in zip(row, column)] for row, column in zip(table, about)]
    whole = solved_whole(rows, [()] * plan[0])[0]
    told = []
    for _ in range(plan[0] + 1):
        entry = (whole + most) % great - most
        told.append(entry)
        whole = (whole - entry) // great
    return tuple(told)


def pair_polynomial(pairs):
    """Return the coefficients of the product over pairs (N, M) of x ** N - (-1) ** (N + M), without zeros behind."""
    told = [1]
    for many, others in pairs:
        sign = 1 if (many + others) % 2 == 0 else -1
        zeros = [0] * many
        told = [old - sign * other for old, other in zip(zeros + told, told + zeros)]
    while len(told) > 1 and told[-1] == 0:
        told = told[:-1]
    return tuple(told)
