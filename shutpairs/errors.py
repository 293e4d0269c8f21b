"""The refusals: one class each, straight beneath ShutError."""


class ShutError(ValueError):
    pass


class NoHeap(ShutError):
    def __init__(self, part):
        self.part = part


class NotIn(ShutError):
    pass


class NoText(ShutError):
    pass


class NoRule(ShutError):
    pass


class NoSum(ShutError):
    pass


class NotKept(ShutError):
    def __init__(self, number):
        self.number = number


class NoPlace(ShutError):
    pass


class NoPair(ShutError):
    pass


class NotSoMany(ShutError):
    pass


class Unmatched(ShutError):
    def __init__(self, choice, one, other):
        self.choice = choice
        self.one = one
        self.other = other


class NotPaired(ShutError):
    pass


class TooLong(ShutError):
    def __init__(self, place):
        self.place = place


class NotStrict(ShutError):
    pass


class LeftOver(ShutError):
    pass


class NoBottom(ShutError):
    pass


class NoLanes(ShutError):
    pass


class TooGreat(ShutError):
    pass


class NoLine(ShutError):
    pass


class NoName(ShutError):
    def __init__(self, name):
        self.name = name


class NothingLeft(ShutError):
    pass
