"""Sums of range sets by bits: one long integer has a bit for each integer of a range set.

Two range sets of thousands of pairs have millions of sums of pairs, most of them equal to others.
Bits take them all in one step for each pair of one of the range sets.
"""


def added_by_bits(one, other):
    """Return the range set of all sums of an integer of one and an integer of the other, neither of them empty."""
    many, few = (one, other) if len(one) > len(other) else (other, one)
    bits = bits_of(many)
    total = 0
    for low, high in few:
        total = total | (smeared(bits, high - low + 1) << (low - few[0][0]))
    return ranges_of(total, one[0][0] + other[0][0])


def bits_of(ranges):
    """Return the integer whose bit k is set if the least integer of a range set plus k is in it."""
    words = []
    start = ranges[0][0]
    for low, high in ranges:
        words.append("0" * (low - start) + "1" * (high - low + 1))
        start = high + 1
    upwards = "".join(words)
    return int(upwards[::-1], 2)


def smeared(bits, width):
    """Return the bits of all sums of a number of bits and a number from 0 to width - 1."""
    done = 1
    while done < width:
        step = min(done, width - done)
        bits = bits | (bits << step)
        done = done + step
    return bits


def ranges_of(bits, least):
    """Return the range set of bits, of which bit 0 is set and stands for least."""
    word = f"{bits:b}"
    upwards = word[::-1] + "0"
    found = []
    start = 0
    while start >= 0:
        end = upwards.find("0", start)
        found.append((least + start, least + end - 1))
        start = upwards.find("1", end)
    return tuple(found)
