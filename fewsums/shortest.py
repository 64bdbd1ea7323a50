"""Shortest chains of a number: one of them, its steps, and how many there are."""

from fewsums.errors import NoNumber


def shortest(number):
    refuse_beyond(number, 60)
    floors = fewest_floors(number)
    found = first_from([1], floors)
    while found is None:
        floors = one_step_more(floors)
        found = first_from([1], floors)
    return found


def least(number):
    return len(shortest(number)) - 1


def shortest_many(number):
    refuse_beyond(number, 40)
    floors = fewest_floors(number)
    many = many_from([1], floors)
    while many == 0:
        floors = one_step_more(floors)
        many = many_from([1], floors)
    return many


def refuse_beyond(number, greatest):
    if number < 1 or number > greatest:
        raise NoNumber(f"the number is not from 1 to {greatest}")


def fewest_floors(number):
    # A floor is the least number that may stand at a place: a step at most doubles, so from below
    # it the end can't be reached any more. Fewer places than these would ask for more than 1 first.
    floors = [number]
    while floors[0] > 1:
        floors = [(floors[0] + 1) // 2] + floors
    return floors


def one_step_more(floors):
    # The first floor is 1, and half of 1, rounded up, is 1 again.
    return [1] + floors


def first_from(begun, floors):
    if len(begun) == len(floors):
        return begun
    for number in next_numbers(begun, floors):
        found = first_from(begun + [number], floors)
        if found is not None:
            return found
    return None


def many_from(begun, floors):
    if len(begun) == len(floors):
        return 1
    return sum([many_from(begun + [number], floors) for number in next_numbers(begun, floors)])


def next_numbers(begun, floors):
    # The last floor is the end itself, so at the last place nothing but the end is left.
    end = floors[len(floors) - 1]
    lowest = max(begun[len(begun) - 1] + 1, floors[len(begun)])
    sums = []
    for one in begun:
        sums.extend([one + other for other in begun if lowest <= one + other <= end])
    # Several pairs may have one sum, but a chain is its numbers alone and is counted once.
    return sorted(set(sums))
