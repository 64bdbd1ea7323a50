"""Notes: a chain written as a text, and read from one."""

from fewsums.chains import is_chain, refuse_no_chain
from fewsums.errors import NoNote

FIGURES = "0123456789"

# A step at most doubles, so no number of a chain is above 2 ** 249, which has 75 figures. Python
# itself refuses to read a number of some thousand figures, so a longer one never comes to it.
MOST_FIGURES = 75


def shown(chain):
    refuse_no_chain(chain)
    return " ".join([str(number) for number in chain])


def read(text):
    words = text.split(" ")
    if not all([writes_number(word) for word in words]):
        raise NoNote("the text is not numbers with one blank between two")
    chain = [int(word) for word in words]
    if not is_chain(chain):
        raise NoNote("the numbers of the text are no chain")
    return chain


def writes_number(word):
    # Two blanks on end, a blank at either end and the text of no sign leave an empty word.
    if len(word) < 1 or len(word) > MOST_FIGURES or word[0] == "0":
        return False
    return all([sign in FIGURES for sign in word])
