"""The kinds of values that the rest of the package asks for."""


def is_integer(thing):
    return isinstance(thing, int) and not isinstance(thing, bool)


def is_number(thing):
    return is_integer(thing) and thing >= 0


def is_list(thing):
    return isinstance(thing, (list, tuple))
