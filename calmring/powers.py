"""Powers of whole numbers, for the measures that are written as figures."""


def power(base, exponent):
    product = 1
    for step in range(exponent):
        product = product * base
    return product
