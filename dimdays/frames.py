"""Frames: which days can be."""

from dimdays.errors import InvalidFrame, InvalidText
from dimdays.plain import is_number, is_positive, is_sequence, read_number


def _is_known(value, length):
    """Tell whether any value tells of a tick of a day of this length whether it is taken."""
    if not isinstance(value, tuple) or len(value) != 2:
        return False
    tick, is_taken = value
    return is_number(tick) and tick < length and isinstance(is_taken, bool)


def _are_known(value, length):
    """Tell whether any value is a sequence of known ticks of a day of this length."""
    return is_sequence(value) and all([_is_known(pair, length) for pair in value])


def _wrong_argument(length, shortest, most, private, known):
    """Return the name of the first argument that makes no frame, or None."""
    if not is_positive(length):
        return "length"
    if not is_positive(shortest):
        return "shortest"
    if most is not None and not is_number(most):
        return "most"
    if not isinstance(private, bool):
        return "private"
    if not _are_known(known, length):
        return "known"
    return None


def _pair_words(pair):
    """Return the words that tell of a known tick."""
    tick, is_taken = pair
    return f"taken {tick}" if is_taken else f"free {tick}"


def _frame_words(frame):
    """Return the parts of the text of a frame."""
    words = [f"length {frame.length}", f"shortest {frame.shortest}"]
    if frame.most is not None:
        words.append(f"most {frame.most}")
    if frame.private:
        words.append("private")
    return words + [_pair_words(pair) for pair in frame.known]


def _read_most(words):
    """Return the greatest number of meetings, if words begin with one, and the words behind it."""
    if words[:1] != ["most"]:
        return None, words
    if len(words) < 2:
        raise InvalidText(0)
    return read_number(words[1]), words[2:]


def _read_private(words):
    """Return whether words begin with the one for private meetings, and the words behind it."""
    if words[:1] != ["private"]:
        return False, words
    return True, words[1:]


def _read_pair(word, numeral):
    """Return the known tick that two words tell."""
    if word not in ("taken", "free"):
        raise InvalidText(0)
    return read_number(numeral), word == "taken"


def _read_known(words):
    """Return the known ticks that words tell, two words each."""
    if len(words) % 2 != 0:
        raise InvalidText(0)
    return [_read_pair(words[at], words[at + 1]) for at in range(0, len(words), 2)]


class Frame:
    """Which days can be: their length, what meetings they may have, and which ticks are known."""

    def __init__(self, length, shortest=1, most=None, private=False, known=()):
        wrong = _wrong_argument(length, shortest, most, private, known)
        if wrong is not None:
            raise InvalidFrame(wrong)
        self.length = length
        self.shortest = shortest
        self.most = most
        self.private = private
        self.known = tuple(known)

    @classmethod
    def read(cls, text):
        """Return the frame that a text tells."""
        if not isinstance(text, str):
            raise InvalidText(0)
        words = text.split(" ")
        if words[0:3:2] != ["length", "shortest"] or len(words) < 4:
            raise InvalidText(0)
        length, shortest = read_number(words[1]), read_number(words[3])
        most, behind = _read_most(words[4:])
        private, behind = _read_private(behind)
        return cls(length, shortest, most, private, _read_known(behind))

    def knowing(self, tick, is_taken):
        """Return the frame with one more known tick."""
        return Frame(self.length, self.shortest, self.most, self.private, self.known + ((tick, is_taken),))

    def lets(self, day):
        """Tell whether a day is one of those that can be."""
        if day.length != self.length or (self.most is not None and len(day.meetings) > self.most):
            return False
        for begin, end, is_private in day.meetings:
            if end - begin < self.shortest or (is_private and not self.private):
                return False
        taken = day.taken
        return all([(tick in taken) == is_taken for tick, is_taken in self.known])

    def __eq__(self, other):
        return (isinstance(other, Frame) and self.length == other.length and self.shortest == other.shortest
                and self.most == other.most and self.private == other.private and self.known == other.known)

    def __str__(self):
        return " ".join(_frame_words(self))
