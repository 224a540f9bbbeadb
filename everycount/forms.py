"""Forms: tuples of a constant and a factor for each count."""


def is_natural(value):
    """Whether the value is an integer from 0 on; True and False are not integers."""
    return isinstance(value, int) and value is not True and value is not False and value >= 0


def is_form(value, k):
    """Whether the value is a form for k counts."""
    if not isinstance(value, tuple) or len(value) != k + 1:
        return False
    return all([is_natural(number) for number in value])


def is_open(form):
    """Whether some factor of the form is not 0."""
    for factor in form[1:]:
        if factor != 0:
            return True
    return False


def fixed_form(constant, k):
    """The form for k counts that has this value at all of them."""
    return (constant,) + (0,) * k


def sum_of_forms(one, other):
    """The form whose value is the sum of both values."""
    return tuple([first + second for first, second in zip(one, other)])


def scaled(form, times):
    """The form whose value is so many times as great."""
    if times == 1:
        return form
    return tuple([number * times for number in form])


def left_of(form, piece):
    """What is left of a form when another one is taken from it; None if that one is greater somewhere."""
    left = []
    for number, taken in zip(form, piece):
        if taken > number:
            return None
        left.append(number - taken)
    return tuple(left)
