"""Heaps as the bits of a number: bit n stands for the heap n."""


def each_nth(n, count):
    """The number with the bits 0, n, 2 * n and so on, at least all of these below count."""
    bits = 1
    width = n
    while width < count:
        bits = bits | (bits << width)
        width = width * 2
    return bits


def heaps_of_rest(rest, modulus, first, count):
    """The heaps from first to count - 1 that have this rest."""
    first = first + (rest - first) % modulus
    if first >= count:
        return 0
    return (each_nth(modulus, count - first) << first) & ((1 << count) - 1)


def heaps_by_worth(told):
    """For each worth up to the greatest one the heaps that have it, told being the worths of the first heaps."""
    heaps = [0] * (max([int(worth) for worth in told]) + 1)
    for heap, worth in enumerate(told):
        heaps[worth] = heaps[worth] | (1 << heap)
    return heaps


def in_any(rows):
    """The heaps that are in any of these rows of heaps."""
    heaps = 0
    for row in rows:
        heaps = heaps | row
    return heaps
