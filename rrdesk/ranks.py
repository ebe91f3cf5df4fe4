"""Ranks: how they age while a caller waits, and which caller runs."""

TOP = 99


def aged(rank, waited, pace):
    """The rank, and one more for each full pace of turns waited."""
    # Nought is no pace, but the document names no error for it here.
    if pace == 0:
        return rank
    return rank + waited // pace


def limit(rank, pace, room):
    """Within how many turns a caller that has waited nought runs."""
    return pace * (TOP - rank) + room


def first(rows, pace):
    """The place of the pair (rank, waited) that runs; None without pairs."""
    place = None
    best = 0
    for at, (rank, waited) in enumerate(rows):
        reached = aged(rank, waited, pace)
        # Only a greater one takes over: of equals the nearest to the
        # line's beginning runs.
        if place is None or reached > best:
            place = at
            best = reached
    return place
