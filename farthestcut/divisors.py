"""What divides two whole numbers, for names and numbers alike: neither can draw it from the other."""


def common_divisor(one, other):
    larger = abs(one)
    smaller = abs(other)
    while smaller != 0:
        rest = larger % smaller
        larger = smaller
        smaller = rest
    return larger
