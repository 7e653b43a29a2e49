"""Labels: the questions that forms over some names can be asked, and which answers to them do not go together."""


def labels_over(keys, names):
    """All LABELs over names: each name, and each two of which neither tells the other; ascending."""
    pairs = [(one, other) for one in names for other in names if one != other]
    apart = [(one, other) for one, other in pairs if not keys.tells(one, other) and not keys.tells(other, one)]
    return sorted(set([(name,) for name in names] + apart))


def clashes(keys, names):
    """Pairs (fitted, unfitted) of tuples of LABELs: no form over names fits all of the one and none of the other.

    Answers to all LABELs over names that hold none of these pairs are those of a form.
    """
    pairs = [label for label in labels_over(keys, names) if len(label) == 2]
    found = []
    for one, other in pairs:
        found.append((((one, other),), ((one,),)))
        found.append((((one, other),), ((other,),)))
        # Not both of them can be ahead of the other.
        found.append((((one,), (other,)), ((one, other), (other, one))))
    return found + _clashes_by_telling(keys, names, pairs) + _clashes_of_three(pairs) + _clashes_of_four(pairs)


def _clashes_by_telling(keys, names, pairs):
    # What is told stands wherever its teller stands: it is ahead of nothing and behind nothing but what this is.
    found = []
    for teller in names:
        for name in keys.told(teller):
            found.append((((teller,),), ((name,),)))
            for other in names:
                if (teller, other) in pairs and (name, other) in pairs:
                    found.append((((teller, other),), ((name, other),)))
                    found.append((((other, teller),), ((other, name),)))
                if keys.tells(teller, other) and (name, other) in pairs:
                    found.append((((teller,),), ((name, other),)))
    return found


def _clashes_of_three(pairs):
    # If one is ahead of a second and this of a third, the first is ahead of the third.
    found = []
    for one, middle in pairs:
        for other in [last for first, last in pairs if first == middle and (one, last) in pairs]:
            found.append((((one, other), (middle,)), ((one, middle), (middle, other))))
    return found


def _clashes_of_four(pairs):
    # If one is ahead of a second and a third ahead of a fourth, one of the two is ahead of what the other one is.
    found = []
    for one, two in pairs:
        for three, four in pairs:
            if one != three and two != four and (one, four) in pairs and (three, two) in pairs:
                found.append((((one, four), (three, two)), ((one, two), (three, four))))
    return found
