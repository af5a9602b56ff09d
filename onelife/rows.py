"""Rows of marks, unchecked: which of them begins which, and what they take up."""

from math import gcd


def begins(one, other):
    """Whether one tuple begins another one."""
    return other[:len(one)] == one


def are_along(one, other):
    """Whether one of two tuples begins the other one."""
    return begins(one, other) or begins(other, one)


def first_clash(rows):
    """The least pair of unlike indexes of rows of which the first row begins the second, None without one."""
    for index, row in enumerate(rows):
        for other, longer in enumerate(rows):
            if other != index and begins(row, longer):
                return index, other
    return None


def beginnings(rows):
    """All beginnings of rows, as the keys of a dict."""
    found = {}
    for row in rows:
        for length in range(len(row) + 1):
            found[row[:length]] = True
    return found


def gaps(marks, rows):
    """The fewest rows more with which rows are full, ascending: one for each mark that lacks behind a beginning."""
    begun = beginnings(rows)
    followed = [beginning + (mark,) for beginning in begun if beginning not in rows for mark in range(marks)]
    return sorted([row for row in followed if row not in begun])


def power(base, times):
    """The product of so many times the base."""
    result = 1
    for _ in range(times):
        result *= base
    return result


def row_of(number, marks, length):
    """The row of so many marks that has so many lesser ones of its length."""
    row = []
    for _ in range(length):
        row.append(number % marks)
        number //= marks
    return tuple(row[::-1])


def ratio(numerator, denominator):
    """A ratio in lowest terms, the denominator being above 0."""
    common = gcd(numerator, denominator)
    return numerator // common, denominator // common
