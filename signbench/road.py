"""The two ends of a road on which letters and answers may be lost, late or doubled."""

from signbench.errors import Barred, Full, Marked, NoDeed, NoMark, NoPlace, NoStanding, TooLong
from signbench.fields import BEGINNING, after
from signbench.kinds import copied, is_number

MOST_UNANSWERED = 8
# So far beyond the due one a letter is kept: the near end sends none that lies farther.
MOST_BEYOND = 7
WORDS = ("done", "deed", "standing", "place", "mark", "marked", "barred", "long")


class Near:
    """The near end: sends deeds as numbered letters and keeps their answers."""

    def __init__(self):
        self.many_sent = 0
        self.unanswered = {}
        self.kept = {}

    def send(self, deed):
        """Sends a deed, any thing, as the next letter (number, deed)."""
        if len(self.unanswered) >= MOST_UNANSWERED:
            raise Full("too many letters are unanswered")
        self.many_sent += 1
        self.unanswered[self.many_sent] = copied(deed)
        return (self.many_sent, copied(deed))

    def letters(self):
        """All unanswered letters, by number."""
        return [(number, copied(self.unanswered[number])) for number in sorted(self.unanswered)]

    def hear(self, answer):
        """Keeps any thing that is the answer to an unanswered letter."""
        if is_answer(answer) and answer[0] in self.unanswered:
            number, word = answer
            self.unanswered.pop(number)
            self.kept[number] = word

    def answers(self):
        """The kept answers (number, word), sorted."""
        return sorted(self.kept.items())


def is_answer(thing):
    """Whether a thing is an answer (number, word)."""
    return isinstance(thing, tuple) and len(thing) == 2 and is_number(thing[0]) and thing[1] in WORDS


class Far:
    """The far end: does what was sent to its field in order, each once."""

    def __init__(self, field):
        self.field = field
        self.now = BEGINNING
        self.early = {}
        # The words of all answers so far: that of letter 1 first.
        self.said = []

    def hear(self, letter):
        """Hears any thing, and answers a letter that is due, those kept behind it, or one that was done."""
        if not is_letter(letter):
            return []
        number, deed = letter
        if number < self.due():
            return [(number, self.said[number - 1])]
        if number <= self.due() + MOST_BEYOND and number not in self.early:
            self.early[number] = copied(deed)
        return self.do_due()

    def do_due(self):
        """Does the letters that are there from the due one on; their answers."""
        found = []
        while self.due() in self.early:
            number = self.due()
            deed = self.early.pop(number)
            self.now, word = done(self.field, self.now, deed)
            self.said.append(word)
            found.append((number, word))
        return found

    def standing_now(self):
        """The standing of its field."""
        return self.now

    def due(self):
        """The number of the letter that is due."""
        return len(self.said) + 1


def is_letter(thing):
    """Whether a thing is a letter (number, deed)."""
    return isinstance(thing, tuple) and len(thing) == 2 and is_number(thing[0]) and thing[0] >= 1


def done(field, standing, deed):
    """The standing behind a deed, and the word of its answer; where it is refused the standing stays."""
    try:
        return (after(field, standing, deed), "done")
    except NoDeed:
        word = "deed"
    except NoStanding:
        word = "standing"
    except NoPlace:
        word = "place"
    except NoMark:
        word = "mark"
    except Marked:
        word = "marked"
    except Barred:
        word = "barred"
    except TooLong:
        word = "long"
    return (standing, word)
