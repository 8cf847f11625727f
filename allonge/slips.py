"""Names, and the row of a bill: who may be asked, and what is left behind it.

A row is a list of pairs (house, bound): the drawee, the drawer, then those who signed.
"""

LONGEST_NAME = 8
FIRST_SIGNED = 2


def is_name(word):
    """Tell whether the text is a name: 1 to 8 small letters."""
    if not 1 <= len(word) <= LONGEST_NAME:
        return False
    return all(["a" <= sign <= "z" for sign in word])


def reach(row, house):
    """Tell the first place at which the house stands bound, else the count of places."""
    for place, (signer, bound) in enumerate(row):
        if bound and signer == house:
            return place
    return len(row)


def askable(row, holder, protested):
    """Tell the open places of an unpaid or a protested bill, rising."""
    return [place for place in range(reach(row, holder)) if row[place][1] and (protested or place == 0)]


def returned(row, place):
    """Tell the row behind an asking at the place."""
    if place == 0:
        # An asking there pays the bill, and a paid bill keeps its row.
        return list(row)
    # The drawer stays when asked: only signatures are struck.
    return row[:max(place, FIRST_SIGNED)]


def honoured(row, place):
    """Tell the row behind an honouring for the place."""
    if place == 0:
        # A row has at least two places, so the drawer is let off instead of struck.
        drawer = row[1][0]
        return [row[0], (drawer, False)]
    return row[:place + 1]


def payable(row, holder, able, protested):
    """Tell the open places at which a house stands that can pay, rising."""
    return [place for place in askable(row, holder, protested) if row[place][0] in able]


def runs_of(row, holder, able, protested):
    """Tell in order the lists of places that can be asked until nobody able is left."""
    places = payable(row, holder, able, protested)
    if not places:
        return [[]]
    runs = []
    for place in places:
        # Behind place 0 the drawee holds the bill; bound there, it can ask nobody more.
        for rest in runs_of(returned(row, place), row[place][0], able, protested):
            runs.append([place, *rest])
    return runs


def bearer_of(row, holder, able, protested):
    """Tell who holds the bill, or has paid at place 0, behind any run."""
    places = payable(row, holder, able, protested)
    if not places:
        return holder
    # All runs have one bearer, and asking the lowest place first is a whole run.
    return row[places[0]][0]
