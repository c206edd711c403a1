"""The journal: commits written as a text, and the commits that come up from any text."""

from signbench.errors import NoText
from signbench.learning import is_commit

MOST_ROWS = 60
CHECK_DIVISOR = 997
FIGURES = "0123456789"
# No number in a row, or in a text that is told to the desk, has more figures.
MOST_FIGURES = 5


def written(commits):
    """The journal of a list of commits."""
    return "".join([row_text(commit) for commit in commits])


def row_text(commit):
    """The row of a commit."""
    sounds, cutting, wished = commit
    parts = [dotted(sounds), "1" if wished else "0"]
    parts.extend([piece_text(piece) for piece in cutting])
    parts.append(f"={check_of(commit)};")
    return " ".join(parts)


def dotted(row):
    """Numbers with dots between."""
    return ".".join([str(number) for number in row])


def piece_text(piece):
    """A piece as END:SIGNS:KIND:COST."""
    end, signs, kind, cost = piece
    return f"{end}:{dotted(signs)}:{kind}:{cost}"


def check_of(commit):
    """The check of a commit's row."""
    sounds, cutting, wished = commit
    numbers = list(sounds) + [1 if wished else 0]
    for end, signs, kind, cost in cutting:
        numbers.extend((end,) + signs + (kind, cost))
    return sum([place * number for place, number in enumerate(numbers, start=1)]) % CHECK_DIVISOR


def come_up(text):
    """The commits of the first rows of any text, as long as each is the row of a commit."""
    if not isinstance(text, str):
        raise NoText("this is no text")
    commits = []
    # What stands behind the last semicolon is no whole row.
    for row in text.split(";")[:-1][:MOST_ROWS]:
        commit = commit_of(row)
        if commit is None:
            return commits
        commits.append(commit)
    return commits


def commit_of(row):
    """The commit of a row, the semicolon left out; None where it is the row of none."""
    words = row.split(" ")
    if len(words) < 4:
        return None
    cutting = tuple([read_piece(word) for word in words[2:-1]])
    commit = (read_dotted(words[0]), cutting, words[1] == "1")
    # The row of a commit is written in one way alone, its check too: so it is this row, or this is none.
    if not is_commit(commit) or row_text(commit) != row + ";":
        return None
    return commit


def read_piece(word):
    """The four parts of a piece as they are written; None where they aren't."""
    parts = word.split(":")
    if len(parts) != 4:
        return None
    return (read_number(parts[0]), read_dotted(parts[1]), read_number(parts[2]), read_number(parts[3]))


def read_dotted(word):
    """The tuple of numbers that stand with dots between; None where one is none."""
    numbers = [read_number(part) for part in word.split(".")]
    return None if None in numbers else tuple(numbers)


def read_number(word):
    """The number that is written without noughts ahead and with no more figures than may be; None where it isn't."""
    if not 1 <= len(word) <= MOST_FIGURES or not all([sign in FIGURES for sign in word]):
        return None
    if word[0] == "0" and word != "0":
        return None
    return int(word)
