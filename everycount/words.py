"""Words: strings of letters from a to z."""


def is_word(value):
    """Whether the value is a string of letters from a to z, perhaps empty."""
    return isinstance(value, str) and all(["a" <= letter <= "z" for letter in value])


def repeated_word(word, times):
    """The word so many times in a row."""
    # Python refuses to repeat even an empty string 2 ** 63 times.
    if word == "":
        return ""
    return word * times


def root_of(word):
    """The shortest word that is this one (not empty) when it stands some times in a row."""
    # A word meets itself within its double exactly where it is turned by whole roots.
    return word[:(word + word).find(word, 1)]


def matched_tail(text, word):
    """How many last letters of the text are those of the word (not empty) written again and again."""
    many = 0
    while many < len(text) and text[-1 - many] == word[-1 - many % len(word)]:
        many += 1
    return many


def first_letters(word, size):
    """The first letters, so many, of the word (not empty) written again and again."""
    return (word * (size // len(word) + 1))[:size]


def turned_word(word, gone):
    """The word that goes on when so many letters of a word (not empty) written again and again are gone."""
    cut = gone % len(word)
    return word[cut:] + word[:cut]


def times_in(text, word):
    """At how many places of the text the word (not empty) begins and stands there whole; it may overlap itself."""
    many = 0
    place = text.find(word)
    while place >= 0:
        many += 1
        place = text.find(word, place + 1)
    return many


def times_each_turn(word, wanted):
    """At how many letters of a word written again and again the wanted word begins (both not empty)."""
    return times_in(first_letters(word, len(word) + len(wanted) - 1), wanted)
