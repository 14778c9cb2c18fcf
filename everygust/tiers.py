"""Tiers of papers that show rows step by step: entries tell by numbers on which entries of the next tier they lean."""


def tier_below(entries, below):
    """The pair of a tier and of what it leans on.

    Entries are tuples (what is shown, parts, ..), whose parts begin with the number of one of the things below; in the
    tier each tells its number among those alone on which some part leans.
    """
    numbers = sorted(set([part[0] for entry in entries for part in entry[1]]))
    place = {number: k for k, number in enumerate(numbers)}
    found = []
    for entry in entries:
        parts = tuple([(place[part[0]],) + part[1:] for part in entry[1]])
        found.append(entry[:1] + (parts,) + entry[2:])
    return (tuple(found), [below[number] for number in numbers])
