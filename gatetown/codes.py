"""The ops of rows: their numbers, their names, and the words that rows are."""

ROUND = 4096

SET = 0
LOAD = 1
STORE = 2
ADD = 3
TAKE = 4
BOTH = 5
GOTO = 6
ZERO = 7
BELOW = 8
FROM = 9
INTO = 10
MOVE = 11
LINK = 12
CALL = 13
OWN = 14
BACK = 15

NAMES = ("set", "load", "store", "add", "take", "both", "goto", "zero",
         "below", "from", "into", "move", "link", "call", "own", "back")


def word_of(op, number):
    # A number beyond a row's twelve figures must not turn the op into another one.
    return NAMES.index(op) * ROUND + number % ROUND


def row_of(word):
    return (NAMES[word // ROUND % len(NAMES)], word % ROUND)
