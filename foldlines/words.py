"""Words in word order: shorter ones first, those of one length in alphabetical order."""

LETTERS = "abcdefghijklmnopqrstuvwxyz"


def word_at(number):
    """The word at this index in word order."""
    word = ""
    rest = number + 1
    while rest > 0:
        rest -= 1
        word = LETTERS[rest % 26] + word
        rest //= 26
    return word


def fresh_word(taken):
    """The first word in word order that is none of these."""
    number = 0
    while word_at(number) in taken:
        number += 1
    return word_at(number)
