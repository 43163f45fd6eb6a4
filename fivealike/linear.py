"""Sums of multiples of rows of numbers: modulo a prime, where that is enough, and exactly."""
from math import gcd

# Whatever is independent modulo one of these is so anyway; what is not can be by some chance.
PRIMES = (1073741789, 2305843009213693951, 618970019642690137449562111, 170141183460469231731687303715884105727)


def inverse(number, prime):
    """The number whose product with this one, which is no multiple of the prime, is 1 modulo the prime."""
    low, high = number % prime, prime
    one, other = 1, 0
    while low != 1:
        times = high // low
        low, high = high - times * low, low
        one, other = other - times * one, one
    return one % prime


class Echelon:
    """Rows modulo a prime, none of which is a sum of multiples of the others."""

    def __init__(self, prime):
        self.prime = prime
        # Pairs of an index at which a row has 1, and all later rows have 0, and of the row.
        self.rows = []

    def left_of(self, row):
        """What is left of a row when multiples of those that are there are taken away."""
        prime = self.prime
        left = [number % prime for number in row]
        for at, known in self.rows:
            times = left[at]
            if times:
                left = [(number - times * other) % prime for number, other in zip(left, known)]
        return left

    def take(self, row):
        """Takes the row if it is not a sum of multiples of those that are there; whether it is taken."""
        left = self.left_of(row)
        for at in range(len(left)):
            if left[at]:
                times = inverse(left[at], self.prime)
                self.rows.append((at, [number * times % self.prime for number in left]))
                return True
        return False


def are_independent_by(rows, prime):
    """Whether no sum of multiples of the rows, not all 0, is 0 modulo the prime."""
    echelon = Echelon(prime)
    for row in rows:
        if not echelon.take(row):
            return False
    return True


def divisor_of(row):
    """The greatest common divisor of the numbers, 0 if all are 0."""
    found = 0
    for number in row:
        if found == 1:
            return 1
        found = gcd(found, number)
    return found


def in_least_terms(row):
    """The row without common divisors of its numbers."""
    divisor = divisor_of(row)
    return [number // divisor for number in row] if divisor > 1 else row


def without_pivot(row, pivot, at):
    """A multiple of the row from which such a multiple of the pivot is taken that it has 0 there."""
    divisor = gcd(row[at], pivot[at])
    keep, take = pivot[at] // divisor, row[at] // divisor
    return in_least_terms([keep * number - take * other for number, other in zip(row, pivot)])


def reduced(rows, width):
    """Rows that have the same sums of multiples, and the list of the indices below the width at which they begin.

    At the index at which a row begins it is above 0, and all others are 0.
    """
    left = [in_least_terms(list(row)) for row in rows]
    begun = []
    for at in range(width):
        done = len(begun)
        fit = [(abs(left[here][at]), here) for here in range(done, len(left)) if left[here][at]]
        if fit != []:
            here = min(fit)[1]
            pivot = left[here] if left[here][at] > 0 else [-number for number in left[here]]
            left[here] = left[done]
            left[done] = pivot
            left = [row if there == done or row[at] == 0 else without_pivot(row, pivot, at)
                    for there, row in enumerate(left)]
            begun.append(at)
    return (left[:len(begun)], begun)


def are_independent(rows):
    """Whether no sum of multiples of the rows, not all 0, is 0."""
    if rows == []:
        return True
    width = len(rows[0])
    if len(rows) > width:
        return False
    for prime in PRIMES:
        if are_independent_by(rows, prime):
            return True
    return len(reduced(rows, width)[0]) == len(rows)


def undone(matrix):
    """For each index the pair of E and integers whose sum of multiples of the columns has E there, 0 elsewhere.

    The matrix is a list of independent rows, as many as it has columns. E is from 1 on, in least terms.
    """
    many = len(matrix)
    beside = [list(row) + [1 if here == at else 0 for here in range(many)] for at, row in enumerate(matrix)]
    rows = reduced(beside, many)[0]
    found = []
    for at in range(many):
        column = [(rows[here][many + at], rows[here][here]) for here in range(many)]
        whole = 1
        for number, below in column:
            least = below // gcd(number, below)
            whole = whole // gcd(whole, least) * least
        found.append((whole, tuple([number * whole // below for number, below in column])))
    return found
