"""Deeds on whole contents: what can be come to by them, ways, and proofs that there is no way.

Contents are a tuple of whole numbers, one for each vessel; sizes are a list of as many.
"""


def with_content(contents, vessel, content):
    changed = list(contents)
    changed[vessel] = content
    return tuple(changed)


def poured(sizes, contents, a, b):
    """The contents behind pouring vessel a into vessel b."""
    # A told content may be more than the size; then there is no room, and not less than none.
    total = min(contents[a], max(sizes[b] - contents[b], 0))
    changed = list(contents)
    changed[a] = contents[a] - total
    changed[b] = contents[b] + total
    return tuple(changed)


def outcomes(sizes, contents, tap):
    """The contents behind each deed; the place of a deed's contents in the list is the deed's number."""
    vessels = list(range(len(sizes)))
    found = []
    if tap == 1:
        found.extend([with_content(contents, vessel, sizes[vessel]) for vessel in vessels])
        found.extend([with_content(contents, vessel, 0) for vessel in vessels])
    for a in vessels:
        found.extend([poured(sizes, contents, a, b) for b in vessels if b != a])
    return found


def come_to(sizes, start, tap):
    """All that can be come to from the start, in order: a dict, to each contents those before them and the deed.

    Contents are looked at in the order in which they were come to, and their deeds by number. So those with fewer
    deeds come first, and of as many deeds those whose deeds' numbers are less; and what stands in the dict leads back
    by the first of the shortest ways. Before the start there is nothing.
    """
    origins = {start: ()}
    order = [start]
    at = 0
    while at < len(order):
        found = outcomes(sizes, order[at], tap)
        for deed in range(len(found)):
            if found[deed] not in origins:
                origins[found[deed]] = (order[at], deed)
                order.append(found[deed])
        at += 1
    return origins


def those_with(origins, vessel, n):
    """The contents, in order, in which the vessel has n."""
    return [contents for contents in origins if contents[vessel] == n]


def way_to(origins, contents):
    """The deeds of the first of the shortest ways to the contents."""
    deeds = []
    origin = origins[contents]
    while len(origin) > 0:
        deeds.append(origin[1])
        origin = origins[origin[0]]
    return list(reversed(deeds))


def told_contents(row, count):
    """The contents that a row tells, of so many vessels each: the keys of a dict, as each is looked at once."""
    told = {}
    for at in range(0, len(row), count):
        told[tuple(row[at:at + count])] = True
    return told


def stays_within(sizes, contents, tap, told):
    return all([after in told for after in outcomes(sizes, contents, tap)])


def proves(sizes, start, tap, vessel, n, row):
    """Whether the row proves that there is no way from the start to n in the vessel."""
    told = told_contents(row, len(sizes))
    if start not in told or len(those_with(told, vessel, n)) > 0:
        return False
    return all([stays_within(sizes, contents, tap, told) for contents in told])
