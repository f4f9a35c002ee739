"""Parts of a number's bits; bit 0 is the one of least worth."""


def bits_of(number, low, many):
    moved = number >> low
    # Where so many bits hold all that is left, the power of two, which may be huge, isn't made.
    if moved >= 0 and moved.bit_length() <= many:
        return moved
    return moved % (1 << many)


def with_bits(number, low, many, part):
    change = bits_of(part, 0, many) - bits_of(number, low, many)
    return number + (change << low)


def signed(part, many):
    top = many - 1
    return bits_of(part, 0, top) - (bits_of(part, top, 1) << top)
