"""What is asked of any thing, whatever kinds of numbers and products are meant."""


# Python counts True and False among its int; the document does not.
def is_whole_number(thing):
    return isinstance(thing, int) and not isinstance(thing, bool)


def is_pair(thing):
    return isinstance(thing, tuple) and len(thing) == 2
