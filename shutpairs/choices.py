"""Choices: the numbers of some of a rule's heaps, rising, and the joined heap of those."""

from shutpairs.heaps import joined


def choices_among(numbers):
    choices = [()]
    # Each number weighs more than all ahead of it together, so choices with it stand behind all without.
    for number in numbers:
        choices = choices + [choice + (number,) for choice in choices]
    return choices


def choices_of(rule):
    return choices_among(list(range(len(rule))))


def joined_of(rule, choice):
    return joined([rule[number] for number in choice])
