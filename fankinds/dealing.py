"""Ways dealt evenly between rooms."""


def dealt(ones, others, out, into):
    """The fewest pairs (one, other), rising, that give each as many as its fan tells, where there are such."""
    if len(ones) == 0 or len(others) == 0:
        return ()
    many = max(out[0] * len(ones), into[0] * len(others))
    each, more = divmod(many, len(ones))
    pairs = []
    for place, one in enumerate(ones):
        first = len(pairs)
        share = each + 1 if place < more else each
        # The others are gone through round and round: so their shares are even too, and none comes twice to one.
        pairs.extend([(one, others[at % len(others)]) for at in range(first, first + share)])
    return tuple(sorted(pairs))
