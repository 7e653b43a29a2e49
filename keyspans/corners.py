"""Corners: records that go apart in one PART or in two, and in nothing else but what brings these along."""

from math import lcm

from keyspans.keys import all_names, field_of
from keyspans.primes import least_factor


def period_of(numbers):
    """By how much values can differ so that, of these numbers of a name, only 0 tells them apart."""
    period = 1
    for m in numbers:
        period = lcm(period, m) if m > 1 else period
    return period


def corner_row(keys, periods, parts):
    """For one PART two records that differ in it; for two PARTs four records x, y, z, u.

    x and y are alike in the first PART, z and u too; y and z are alike in the second one, u and x too. periods holds
    for each name the period of its numbers.
    """
    corners = ((0, 0), (1, 0)) if len(parts) == 1 else ((0, 0), (0, 1), (1, 1), (1, 0))
    one = _shifts(keys, parts[0], periods, 1)
    # Where a name tells both, the factor keeps the four apart.
    other = _shifts(keys, parts[-1], periods, 2)
    row = []
    for i, j in corners:
        worths = [i * one[name] + j * other[name] for name in all_names(keys)]
        row.append((worths[0], tuple(worths[1:])))
    return tuple(row)


def _shifts(keys, part, periods, factor):
    # For each name by how much a value changes where nothing but the PART and what tells its name is to change.
    target, power = field_of(part)
    shifts = {}
    for name, period in periods.items():
        shifts[name] = factor * period if keys.tells(name, target) else 0
    shifts[target] = _step(periods[target], power)
    return shifts


def _step(period, power):
    # The least change that a power of a prime tells, and no lower power, no other prime; any change where it is 0.
    if power == 0:
        return period
    prime = least_factor(power, 2, power)
    rest = period
    while rest % prime == 0:
        rest = rest // prime
    return rest * (power // prime)
