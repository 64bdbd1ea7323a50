"""Chains: what is one, its links, and chains thinned, joined and made by doubling."""

from fewsums.errors import NoChain, NoNumber, TooLong

MOST_NUMBERS = 250


def is_chain(chain):
    if len(chain) < 1 or len(chain) > MOST_NUMBERS or chain[0] != 1:
        return False
    for place in range(1, len(chain)):
        # The growth is asked first: link_to needs the numbers ahead in rising order.
        if chain[place] <= chain[place - 1] or link_to(chain, place) is None:
            return False
    return True


def link_to(chain, place):
    # The numbers ahead rise, so a sum too small with this second place rules the first place out
    # for every lower second one too, and a sum too great rules the second place out for every
    # higher first one. Coming from both ends, the link with the greatest second place is met first.
    first = 0
    second = place - 1
    while first <= second:
        total = chain[first] + chain[second]
        if total == chain[place]:
            return (first, second)
        if total < chain[place]:
            first = first + 1
        else:
            second = second - 1
    return None


def refuse_no_chain(chain):
    if not is_chain(chain):
        raise NoChain("the list is no chain")


def links(chain):
    refuse_no_chain(chain)
    return [link_to(chain, place) for place in range(1, len(chain))]


def thinned(chain):
    found = links(chain)
    needed = [False for number in chain]
    needed[len(chain) - 1] = True
    # From the end down: what needs a number stands behind it, so it is settled by then.
    for place in range(len(chain) - 1, 0, -1):
        if needed[place]:
            for ahead in found[place - 1]:
                needed[ahead] = True
    return [chain[place] for place in range(len(chain)) if needed[place]]


def joined(one, other):
    refuse_no_chain(one)
    refuse_no_chain(other)
    # The second chain's 1 falls on the first one's end and is not told twice.
    if len(one) + len(other) - 1 > MOST_NUMBERS:
        raise TooLong("the joined chain has too many numbers")
    end = one[len(one) - 1]
    return list(one) + [number * end for number in other[1:]]


def doubling(number):
    if number < 1 or number > 10 ** 30:
        raise NoNumber("the number is not from 1 to 10 ** 30")
    last = 1
    chain = [last]
    for figure in figures_in_base_two(number)[1:]:
        last = last * 2
        chain.append(last)
        if figure == 1:
            last = last + 1
            chain.append(last)
    return chain


def figures_in_base_two(number):
    figures = []
    rest = number
    while rest > 0:
        figures.append(rest % 2)
        rest = rest // 2
    # They come lowest first, and are read from the highest one down.
    return list(reversed(figures))
