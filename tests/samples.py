"""What the tests of several files share: lists, slow second opinions, and the asking for a refusal."""

from itertools import product

from fewsums import errors

FIVE = (errors.NoChain, errors.NoModulus, errors.NoNumber, errors.TooLong, errors.NoNote)

FORTY_NINES = 10 ** 40 - 1


def doubles(many):
    return [2 ** place for place in range(many)]


def by_text(number):
    """The doubling chain, read off the number's figures as a text: each head of it, and it with a nought last."""
    figures = bin(number)[2:]
    chain = [1]
    for many in range(2, len(figures) + 1):
        chain.append(int(figures[:many - 1] + "0", 2))
        if figures[many - 1] == "1":
            chain.append(int(figures[:many], 2))
    return chain


CHAINS = [
    [1],
    [1, 2],
    [1, 2, 3],
    [1, 2, 4],
    [1, 2, 3, 4],
    [1, 2, 4, 5, 8],
    [1, 2, 4, 5, 8, 13, 16],
    [1, 2, 3, 5, 8, 13, 21],
    doubles(133),
    doubles(132) + [2 ** 131 + 1],
    by_text(FORTY_NINES),
    list(range(1, 250)),
    list(range(1, 251)),
]

NO_CHAINS = [
    [],
    [0],
    [2],
    [-1],
    [10 ** 39],
    [0, 1],
    [0, 1, 2],
    [2, 4],
    [2, 3, 4],
    [-1, 1, 2],
    [-1, -2],
    [1, 1],
    [1, 1, 2],
    [1, 2, 2],
    [1, 2, 3, 3],
    [1, 2, 4, 4, 8],
    [1, 0],
    [1, -1],
    [1, 2, -3],
    [1, -1, 2],
    [1, 2, 1],
    [1, 2, 4, 3],
    [1, 2, 3, 2, 4],
    [1, 2, 4, 3, 6],
    [1, 3],
    [1, 3, 4],
    [1, 2, 5],
    [1, 2, 4, 7],
    [1, 2, 4, 7, 8],
    [1, 2, 3, 6, 10],
    [1, 2, 4, 8, 11],
    [1, FORTY_NINES],
    [1, 2, -FORTY_NINES],
    doubles(132) + [2 ** 131 + 3],
    doubles(132) + [2 ** 132 - 1],
    doubles(132) + [2 ** 132 + 1],
    doubles(132) + [2 ** 131],
    doubles(132) + [2 ** 131 - 1],
    list(range(1, 250)) + [499],
    list(range(1, 252)),
    list(range(1, 301)),
    doubles(132) + [2 ** 131 + number for number in range(1, 120)],
]


def all_short_lists():
    """Every list of up to five numbers from -1 to 6, and those of six and seven that begin with 1, 2 and grow."""
    lists = [list(numbers) for many in range(6) for numbers in product(range(-1, 7), repeat=many)]
    for many in (4, 5):
        for steps in product(range(1, 5), repeat=many):
            numbers = [1, 2]
            for step in steps:
                numbers.append(numbers[-1] + step)
            lists.append(numbers)
    return lists


def pairs_for(chain, place):
    """Every tuple of two places ahead, the lesser or like one first, whose numbers' sum stands at the place."""
    return [
        (first, second)
        for second in range(place)
        for first in range(second + 1)
        if chain[first] + chain[second] == chain[place]
    ]


def slow_is_chain(chain):
    return (
        1 <= len(chain) <= 250
        and chain[0] == 1
        and all(chain[place - 1] < chain[place] for place in range(1, len(chain)))
        and all(pairs_for(chain, place) for place in range(1, len(chain)))
    )


def all_short_chains():
    return [numbers for numbers in all_short_lists() if slow_is_chain(numbers)]


def slow_links(chain):
    return [max(pairs_for(chain, place), key=lambda pair: pair[1]) for place in range(1, len(chain))]


def slow_thinned(chain):
    found = slow_links(chain)

    def need(place):
        if place == 0:
            return {1}
        first, second = found[place - 1]
        return {chain[place]} | need(first) | need(second)

    return sorted(need(len(chain) - 1))


def assert_refused(case, error_class, function, *handed):
    with case.assertRaises(error_class) as caught:
        function(*handed)
    refusal = caught.exception
    case.assertIsInstance(refusal, errors.SumError)
    case.assertIsInstance(refusal, ValueError)
    case.assertEqual([kind for kind in FIVE if isinstance(refusal, kind)], [error_class])


def assert_whole_numbers(case, numbers):
    case.assertIs(type(numbers), list)
    for number in numbers:
        case.assertIs(type(number), int)
