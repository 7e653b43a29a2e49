"""Tuples of lane numbers, in which each lane stands as often as it has records, in ascending order.

counts is a list that holds for each lane how many records it has.
"""

from math import comb


def how_many_turns(counts):
    """How many such tuples there are."""
    many = 1
    total = 0
    for count in counts:
        total += count
        many = many * comb(total, count)
    return many


def first_turns(counts):
    """The least of them."""
    return tuple([lane for lane, count in enumerate(counts) for _ in range(count)])


def next_turns(turns):
    """The one behind these, None if there is none."""
    rises = [at for at in range(len(turns) - 1) if turns[at] < turns[at + 1]]
    if len(rises) == 0:
        return None
    # What stands behind the last rise never rises; backwards it is the least order of it.
    at = rises[-1]
    rest = turns[:at:-1]
    greater = [turn > turns[at] for turn in rest].index(True)
    return turns[:at] + (rest[greater],) + rest[:greater] + (turns[at],) + rest[greater + 1:]


def nth_turns(counts, k):
    """The one at place k, which there must be."""
    left = list(counts)
    many = how_many_turns(left)
    turns = []
    for total in range(sum(left), 0, -1):
        # Of many tuples with total places, this share goes on with a lane: as many parts as it has records.
        lane = 0
        share = many * left[lane] // total
        while k >= share:
            k -= share
            lane += 1
            share = many * left[lane] // total
        turns.append(lane)
        left[lane] -= 1
        many = share
    return tuple(turns)


def place_of_turns(counts, turns):
    """The place at which these turns stand."""
    left = list(counts)
    many = how_many_turns(left)
    k = 0
    for at, lane in enumerate(turns):
        total = len(turns) - at
        k += many * sum(left[:lane]) // total
        many = many * left[lane] // total
        left[lane] -= 1
    return k
