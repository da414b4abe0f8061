"""Integers in decimal notation."""


def is_numeral(word):
    """Whether a word is an integer from 0 as `str` writes it."""
    if word == "" or not all([sign in "0123456789" for sign in word]):
        return False
    return word == "0" or word[0] != "0"


def is_signed(word):
    """Whether a word is an integer as `str` writes it."""
    return is_numeral(word) or word[:1] == "-" and word != "-0" and is_numeral(word[1:])
