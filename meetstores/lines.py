"""The words of a line, and what they tell: counts, texts and values (point 20)."""

from meetstores.octets import MOST_SIGNS, is_signs, is_value

FIGURES = "0123456789"
MOST_FIGURES = 20


def is_figures(word, most):
    """Whether a word is at most so many figures without needless zeros."""
    if not 1 <= len(word) <= most or word.strip(FIGURES) != "":
        return False
    return word == "0" or word[0] != "0"


def word_end(line, at):
    """The place behind the word of a line that begins at a place; None for a quote that is not closed."""
    if line.startswith("'", at):
        close = line.find("'", at + 1)
        return close + 1 if close >= 0 else None
    space = line.find(" ", at)
    return space if space >= 0 else len(line)


def words_of(line):
    """The list of the words of a line; None if a string is none."""
    words = []
    at = 0
    while True:
        end = word_end(line, at)
        if end is None or end == at:
            return None
        words.append(line[at:end])
        if end == len(line):
            return words
        if line[end] != " ":
            return None
        at = end + 1


def count_told(word):
    """The count that a word tells by its figures, or None."""
    return int(word) if is_figures(word, MOST_FIGURES) else None


def text_told(word):
    """The text that a word tells in quotes, or None."""
    if len(word) < 2 or word[0] != "'" or word[-1] != "'":
        return None
    text = word[1:-1]
    return text if is_signs(text, 0, MOST_SIGNS) else None


def integer_told(word):
    """The integer value that a word tells, or None."""
    if not word.startswith("#"):
        return None
    below = word.startswith("#-")
    number = count_told(word[2:] if below else word[1:])
    if number is None or (below and number == 0):
        return None
    number = -number if below else number
    return number if is_value(number) else None


def is_value_word(word):
    """Whether a word tells a value."""
    return word == "none" or integer_told(word) is not None or text_told(word) is not None


def value_told(word):
    """The value that is told by what surely is a word of a value."""
    if word == "none":
        return None
    return integer_told(word) if word.startswith("#") else text_told(word)


def text_word(text):
    """The word that tells a text."""
    return f"'{text}'"


def value_word(value):
    """The word that tells a value."""
    if value is None:
        return "none"
    if type(value) is str:
        return text_word(value)
    return "#" + str(value)


def value_words(values):
    """The words that tell values, parted by single spaces."""
    return " ".join([value_word(value) for value in values])
