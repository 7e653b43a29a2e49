"""Primes: the numbers behind a slash, taken apart."""

from math import gcd

# A number up to 10 ** 6 without a factor up to here is a prime.
_ROOT = 1000

# No prime behind a slash is greater.
_GREATEST = 1000000

# Walks that have not met by then go around a prime beyond that bound.
_STRIDES = 10000

# So many strides are looked at together: to look at each one takes longer than to go it.
_AT_ONCE = 50


def least_factor(m, least, greatest):
    """The least factor of m from least to greatest; m itself if there is none, or only m itself divides it."""
    factor = least
    while factor <= greatest and factor * factor <= m:
        if m % factor == 0:
            return factor
        factor = factor + 1
    return m


def is_prime_power(m):
    """Whether m is a power of a prime; not to be relied on where all its primes are beyond the bound."""
    prime = least_factor(m, 2, _GREATEST)
    while m % prime == 0:
        m = m // prime
    return m == 1


def prime_powers(numbers):
    """The powers of primes above 1 that divide one of the numbers."""
    primes = []
    for m in numbers:
        # Most primes stand in several of the numbers: each is looked for only once.
        rest = m
        for prime in primes:
            while rest % prime == 0:
                rest = rest // prime
        primes = primes + _primes(rest)
    powers = []
    for prime in primes:
        power = prime
        while any([m % power == 0 for m in numbers]):
            powers.append(power)
            power = power * prime
    return powers


def _primes(m):
    # The primes that divide m.
    primes = []
    pending = [m]
    while len(pending) > 0:
        rest = pending.pop()
        factor = _some_factor(rest)
        if factor != rest:
            pending.extend([factor, rest // factor])
        elif rest > 1 and rest not in primes:
            primes.append(rest)
    return primes


def _some_factor(m):
    # A factor of m other than 1 and m, m itself if m is a prime.
    factor = least_factor(m, 2, _ROOT)
    if factor != m or m <= _ROOT * _ROOT:
        return factor
    # What is left was put together of primes up to the bound: trying them one by one would take too long.
    for shift in (1, 2, 3):
        factor = _met(m, shift)
        if factor != m:
            return factor
    return least_factor(m, _ROOT, m)


def _met(m, shift):
    # Two walk by x * x + shift, one twice as fast; they meet modulo a factor of m sooner than modulo m (Pollard's rho).
    slow = 2
    fast = 2
    for _ in range(_STRIDES // _AT_ONCE):
        starts = (slow, fast)
        product = 1
        for _ in range(_AT_ONCE):
            slow, fast = _stride(m, shift, slow, fast)
            product = product * (slow - fast) % m
        factor = gcd(product, m)
        if factor == m:
            return _met_first(m, shift, starts)
        if factor != 1:
            return factor
    return m


def _met_first(m, shift, starts):
    # Stride by stride, where all factors of m meet within few strides.
    slow, fast = starts
    for _ in range(_AT_ONCE):
        slow, fast = _stride(m, shift, slow, fast)
        factor = gcd(slow - fast, m)
        if factor != 1:
            return factor
    return m


def _stride(m, shift, slow, fast):
    once = (fast * fast + shift) % m
    return (slow * slow + shift) % m, (once * once + shift) % m
