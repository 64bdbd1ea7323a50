"""Powers: what a modulus leaves of them, reckoned along a chain."""

from fewsums.chains import links
from fewsums.errors import NoModulus


def powers(chain, base, modulus):
    # The links are asked first: a list that is no chain is refused ahead of the modulus.
    found = links(chain)
    if modulus < 1 or modulus > 10 ** 30:
        raise NoModulus("the modulus is not from 1 to 10 ** 30")
    told = [base % modulus]
    for link in found:
        told.append(told[link[0]] * told[link[1]] % modulus)
    return told
