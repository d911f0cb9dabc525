"""Matrices of words: how the numbers at a word are made of those at the beginning."""

from fourtouch.errors import InvalidQuestion
from fourtouch.walks import check_quadruple, rows_at

IDENTITY = ((1, 0, 0, 0), (0, 1, 0, 0), (0, 0, 1, 0), (0, 0, 0, 1))


def matrix_of(word):
    """Return the matrix of a word."""
    return rows_at(IDENTITY, word)


def applied(matrix, numbers):
    """Return the tuple of the four numbers that a matrix makes of four."""
    return tuple([sum([part * number for part, number in zip(row, numbers)]) for row in matrix])


def product(one, other):
    """Return the product of two matrices."""
    columns = list(zip(*other))
    return tuple([applied(columns, row) for row in one])


def check_times(times):
    """Raise InvalidQuestion for a number of times below 0."""
    if times < 0:
        raise InvalidQuestion("a number of times is not below 0")


def check_modulus(modulus):
    """Raise InvalidQuestion for a modulus below 1."""
    if modulus < 1:
        raise InvalidQuestion("a modulus is not below 1")


def remainders(matrix, modulus):
    """Return the remainders of the numbers of a matrix; without a modulus it stays as it is."""
    if modulus is None:
        return matrix
    return tuple([tuple([number % modulus for number in row]) for row in matrix])


def raised(matrix, times, modulus):
    """Return the power of a matrix by squaring, or its remainders if there is a modulus."""
    answer = remainders(IDENTITY, modulus)
    base = remainders(matrix, modulus)
    for at in reversed(range(times.bit_length())):
        answer = remainders(product(answer, answer), modulus)
        if times >> at & 1:
            answer = remainders(product(answer, base), modulus)
    return answer


def power(matrix, times):
    """Return a matrix so many times with itself."""
    check_times(times)
    return raised(matrix, times, None)


def power_modulo(matrix, times, modulus):
    """Return the remainders of the numbers of a power."""
    check_times(times)
    check_modulus(modulus)
    return raised(matrix, times, modulus)


def curvatures_after(curvatures, word, times):
    """Return the curvatures of the four at a word so many times in a row."""
    check_quadruple(curvatures)
    return applied(power(matrix_of(word), times), curvatures)


def curvatures_modulo(curvatures, word, times, modulus):
    """Return the remainders of the curvatures of the four at a word so many times in a row."""
    check_quadruple(curvatures)
    numbers = applied(power_modulo(matrix_of(word), times, modulus), curvatures)
    return tuple([number % modulus for number in numbers])


def first_number(matrix):
    """Return the number that a reduced word with this matrix must begin with, or None.

    It is that of the only column with numbers below 0, and without it the sum of
    all numbers becomes less, which is so exactly if the sum of the column is below 0.
    """
    columns = list(zip(*matrix))
    below = [at for at in range(4) if min(columns[at]) < 0]
    if len(below) != 1 or sum(columns[below[0]]) >= 0:
        return None
    return below[0] + 1


def word_of(matrix):
    """Return the reduced word of a matrix, or None if it is that of no word."""
    word = []
    rows = tuple([tuple(row) for row in matrix])
    # The sum of all numbers becomes less with each number. Once it is below 0, three columns get
    # numbers below 0 by the next one, so this ends for every matrix.
    while rows != IDENTITY:
        number = first_number(rows)
        if number is None:
            return None
        word.append(number)
        rows = product(rows, matrix_of((number,)))
    return tuple(word)
