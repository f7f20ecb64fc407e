"""Frames: a crossing's kept samples as bits, signs, a check, and bytes; and read out of these again."""

FRAME_BEGINS = 128
FRAME_ENDS = 129
# Bytes of a frame beside its signs: both ends, how many signs there are, two of the check.
BESIDE_SIGNS = 5

NUMBER_BITS = 12
NUMBERS = 4096
WIDTH_BITS = 4
SAMPLE_BITS = 12
SIGN_BITS = 7
SIGNS = 128

DIVISOR = 0b100010001000011
DIVISOR_TOP = 0b100000000000000


def bits_of(number, width):
    """Gives so many bits of a number, the greatest first."""
    return [(number >> (width - 1 - place)) & 1 for place in range(width)]


def number_of(bits):
    number = 0
    for bit in bits:
        number = number * 2 + bit
    return number


def signs_of(bits):
    """Cuts bits into signs, with zero bits behind the last ones to fill."""
    filled = bits + [0] * (-len(bits) % SIGN_BITS)
    return [number_of(filled[start:start + SIGN_BITS]) for start in range(0, len(filled), SIGN_BITS)]


def check_of(signs):
    """Gives the two signs that check a row of signs."""
    remainder = 0
    # Two signs of 0 are the 14 zero bits that are divided along.
    for sign in signs + [0, 0]:
        for bit in bits_of(sign, SIGN_BITS):
            remainder = remainder * 2 + bit
            if remainder >= DIVISOR_TOP:
                remainder = remainder ^ DIVISOR
    return [remainder // SIGNS, remainder % SIGNS]


def frame_of(crossing, samples):
    """Gives a frame's bytes; samples has one for each channel, None where it isn't kept."""
    kept = [sample for sample in samples if sample is not None]
    width = max(kept, default=0).bit_length()
    bits = bits_of(crossing % NUMBERS, NUMBER_BITS)
    bits.extend([0 if sample is None else 1 for sample in samples])
    bits.extend(bits_of(width, WIDTH_BITS))
    for sample in kept:
        bits.extend(bits_of(sample, width))
    signs = signs_of(bits)
    checked = [len(signs)] + signs
    return [FRAME_BEGINS] + checked + check_of(checked) + [FRAME_ENDS]


def read_frame(inside, channels):
    """Gives (crossing, samples) of the frame of so many channels that has just this between its ends.

    The samples are as frame_of takes them. None is given if there's no such frame.
    """
    bits = []
    for sign in inside[1:-2]:
        bits.extend(bits_of(sign, SIGN_BITS))
    marks_end = NUMBER_BITS + channels
    place = marks_end + WIDTH_BITS
    width = number_of(bits[marks_end:place])
    if len(bits) < place or width > SAMPLE_BITS:
        return None
    crossing = number_of(bits[:NUMBER_BITS])
    samples = []
    for mark in bits[NUMBER_BITS:marks_end]:
        if mark == 0:
            samples.append(None)
        else:
            samples.append(number_of(bits[place:place + width]))
            place += width
    # A wrong count or check, bits that lack or aren't the fewest, and bytes that are no signs
    # all show in this: made anew, the frame is another one.
    if frame_of(crossing, samples) != [FRAME_BEGINS] + inside + [FRAME_ENDS]:
        return None
    return (crossing, samples)


def most_bytes(channels):
    """Gives how many bytes a frame of so many channels has at most."""
    bits = NUMBER_BITS + WIDTH_BITS + (1 + SAMPLE_BITS) * channels
    return BESIDE_SIGNS + (bits + SIGN_BITS - 1) // SIGN_BITS
