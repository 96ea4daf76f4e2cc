"""Names, and the words of cells, which no name may be."""

from laidcells.errors import NoName

LETTERS = "abcdefghijklmnopqrstuvwxyz"
LONGEST_NAME = 8
SIDE_WORDS = ("in", "out")
# For each word of a gate, how many names may stand behind it.
NAME_COUNTS = {
    "and": (2, 3),
    "or": (2, 3),
    "odd": (2, 3),
    "most": (3,),
    "not": (1,),
    "one": (0,),
    "nil": (0,),
}


def is_name(text):
    # islower() would let letters by that are none of a to z.
    if not all([sign in LETTERS for sign in text]):
        return False
    return 1 <= len(text) <= LONGEST_NAME and text not in NAME_COUNTS and text not in SIDE_WORDS


def word_takes(word, count):
    return count in NAME_COUNTS.get(word, ())


def check_there(names, given):
    for name in names:
        if name not in given:
            raise NoName(name)
