"""The forms in which answers tell of crossings, parts of a whole, and samples."""


def stretches_of(marks):
    """Gives how many stretches of true marks there are, then where each begins and ends."""
    edges = []
    inside = False
    for place, mark in enumerate(marks):
        if mark != inside:
            edges.append(place)
            inside = mark
    if inside:
        edges.append(len(marks))
    return [len(edges) // 2] + edges


def lowest_terms(part, whole):
    """Gives a fraction's two numbers in lowest terms; whole is 1 or more."""
    common = whole
    rest = part
    while rest > 0:
        remainder = common % rest
        common = rest
        rest = remainder
    return [part // common, whole // common]


def counted_pairs(samples):
    """Gives how many samples are kept, then for each its channel's number and it."""
    pairs = []
    for channel, sample in enumerate(samples, start=1):
        if sample is not None:
            pairs.extend([channel, sample])
    return [len(pairs) // 2] + pairs
