"""Edits, and the texts in which transactions are written."""

from mendvault.errors import BadText
from mendvault.figures import FIGURES, number_of
from mendvault.limits import HIGHEST, LONGEST_NAME, MOST_CONTENT
from mendvault.signs import symbols_of, text_of
from mendvault.sums import text_sum

LETTERS = "abcdefghijklmnopqrstuvwxyz"

# The word of each edit, and how many words the first line of its text has.
WORDS = {
    "put": 3,
    "append": 3,
    "drop": 2,
    "rename": 3,
    "copy": 3,
    "snapshot": 2,
    "forget": 2,
    "restore": 2,
    "wipe": 1,
}

# The edits that have a content: the last word of their first line is its number of signs.
WITH_CONTENT = ("put", "append")

# What stands ahead of the sum in the last line of a transaction's text. No edit's text begins so.
END = "end "


def is_name(word):
    """Whether the word is a name (or a label)."""
    if not 1 <= len(word) <= LONGEST_NAME or word[0] not in LETTERS:
        return False
    return all([sign in LETTERS or sign in FIGURES for sign in word])


def edit_text(edit):
    """The text of the edit."""
    if edit[0] in WITH_CONTENT:
        word, name, content = edit
        return f"{word} {name} {len(content)}\n{content}\n"
    return " ".join(edit) + "\n"


def transaction_text(number, edits):
    """The text of the transaction with this number and these edits."""
    text = f"tx {number} {len(edits)}\n" + "".join([edit_text(edit) for edit in edits])
    return f"{text}{END}{text_sum(text)}\n"


def read_transaction(text):
    """The number and the edits of the transaction that has this text."""
    words, at = read_line(text, 0)
    if len(words) != 3:
        raise BadText(0)
    number = number_up_to(words[1], HIGHEST)
    edits = []
    while text[at:at + len(END)] != END:
        edit, at = read_edit(text, at)
        edits.append(edit)
    # This tells all the rest: the count, the sum, what stands behind contents.
    if transaction_text(number, edits) != text:
        raise BadText(0)
    return number, tuple(edits)


def read_line(text, at):
    """The words of the line that begins at this place, and the place behind it."""
    end = text.find("\n", at)
    if end < 0:
        raise BadText(0)
    return text[at:end].split(" "), end + 1


def read_edit(text, at):
    """The edit whose text begins at this place, and the place behind it."""
    words, behind = read_line(text, at)
    word = words[0]
    if word not in WORDS or len(words) != WORDS[word]:
        raise BadText(0)
    if word not in WITH_CONTENT:
        check_words(words[1:])
        return tuple(words), behind
    check_words(words[1:2])
    size = number_up_to(words[2], MOST_CONTENT)
    content = text[behind:behind + size]
    if text_of(symbols_of(content)) is None:
        raise BadText(0)
    return (word, words[1], content), behind + size + 1


def check_words(words):
    """BadText if one of the words is no name."""
    if not all([is_name(word) for word in words]):
        raise BadText(0)


def number_up_to(word, most):
    """The number that the word is in figures; BadText if it is none, or above the most."""
    number = number_of(word, len(str(most)))
    if number is None or number > most:
        raise BadText(0)
    return number
