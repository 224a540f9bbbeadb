"""Words: strings of letters from a to z."""


def is_word(value):
    """Whether the value is a string of letters from a to z, perhaps empty."""
    return isinstance(value, str) and all(["a" <= letter <= "z" for letter in value])


def repeated_word(word, times):
    """The word so many times in a row."""
    # Python refuses to repeat even an empty string 2 ** 63 times.
    if word == "":
        return ""
    return word * times


def root_of(word):
    """The shortest word that is this one (not empty) when it stands some times in a row."""
    # A word meets itself within its double exactly where it is turned by whole roots.
    return word[:(word + word).find(word, 1)]


def matched_tail(text, word):
    """How many last letters of the text are those of the word (not empty) written again and again."""
    many = 0
    while many < len(text) and text[-1 - many] == word[-1 - many % len(word)]:
        many += 1
    return many
