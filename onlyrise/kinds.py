"""What is asked of the kinds of things in many places."""


def is_count(thing):
    # Python counts True and False as 1 and 0; here they are no numbers.
    return isinstance(thing, int) and not isinstance(thing, bool) and thing >= 0


def is_tuple(thing, fewest, most):
    return isinstance(thing, tuple) and fewest <= len(thing) <= most
