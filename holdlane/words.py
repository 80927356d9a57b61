"""Whole numbers, values, names, words and fractions."""

from holdlane.errors import BadWord

VALUES = 1000000000
FIGURES = "0123456789"
LETTERS = "abcdefghijklmnopqrstuvwxyz"
LONGEST_NAME = 8
LONGEST_NUMBER = 10


def is_whole(thing):
    # Python counts True and False among its ints.
    return isinstance(thing, int) and not isinstance(thing, bool)


def is_value(thing):
    return is_whole(thing) and 0 <= thing < VALUES


def is_name(thing):
    if not isinstance(thing, str) or not 1 <= len(thing) <= LONGEST_NAME:
        return False
    # Python's own isalpha and isdigit let by signs beyond a to z and 0 to 9.
    return thing[0] in LETTERS and all([sign in LETTERS or sign in FIGURES for sign in thing])


def rest(number):
    return number % VALUES


def writes_number(word):
    if not 1 <= len(word) <= LONGEST_NUMBER:
        return False
    if len(word) > 1 and word[0] == "0":
        return False
    return all([sign in FIGURES for sign in word])


def number_in(word, low, high):
    # Python's int lets by signs, blanks, underscores and other figures, so the form is looked at first.
    if not writes_number(word):
        raise BadWord("this word writes no number")
    number = int(word)
    if not low <= number <= high:
        raise BadWord("this number is out of bounds")
    return number


def words_of(row):
    return row.split(" ")


def greatest_divisor(one, other):
    while other > 0:
        left = one % other
        one = other
        other = left
    return one


def least_terms(top, bottom):
    divisor = greatest_divisor(top, bottom)
    return (top // divisor, bottom // divisor)


def under(one, other):
    return one[0] * other[1] < other[0] * one[1]
