"""Forms: tuples of a constant and a factor for each count."""


def is_natural(value):
    """Whether the value is an integer from 0 on; True and False are not integers."""
    return isinstance(value, int) and not isinstance(value, bool) and value >= 0


def is_form(value, k):
    """Whether the value is a form for k counts."""
    if not isinstance(value, tuple) or len(value) != k + 1:
        return False
    return all([is_natural(number) for number in value])


def is_open(form):
    """Whether some factor of the form is not 0."""
    return any([factor != 0 for factor in form[1:]])


def fixed_form(constant, k):
    """The form for k counts that has this value at all of them."""
    return (constant,) + (0,) * k


def sum_of_forms(one, other):
    """The form whose value is the sum of both values."""
    return tuple([first + second for first, second in zip(one, other)])


def scaled(form, times):
    """The form whose value is so many times as great."""
    return tuple([number * times for number in form])
