"""Days and their meetings."""

from dimdays.errors import InvalidDay, InvalidText, NoMeeting
from dimdays.plain import is_number, is_positive, is_sequence, read_number, read_span


def _is_meeting(value):
    """Tell whether any value is a meeting of some day."""
    if not isinstance(value, tuple) or len(value) != 3:
        return False
    begin, end, is_private = value
    return is_number(begin) and is_number(end) and isinstance(is_private, bool) and begin < end


def _are_meetings(value, length):
    """Tell whether any value is a sequence of meetings that a day of this length can have."""
    if not is_sequence(value):
        return False
    ahead = 0
    for meeting in value:
        if not _is_meeting(meeting) or meeting[0] < ahead or meeting[1] > length:
            return False
        ahead = meeting[1]
    return True


def _meeting_text(meeting):
    begin, end, is_private = meeting
    if is_private:
        return f"{begin}-{end} private"
    return f"{begin}-{end}"


def _meetings_text(meetings):
    if len(meetings) == 0:
        return "-"
    return ", ".join([_meeting_text(meeting) for meeting in meetings])


def _read_meeting(text):
    """Return the three things that the text of a meeting tells."""
    span = text.removesuffix(" private")
    begin, end = read_span(span)
    return begin, end, span != text


def _read_meetings(text):
    if text == "-":
        return []
    return [_read_meeting(part) for part in text.split(", ")]


class Day:
    """A day of so many ticks, with its meetings in their order."""

    def __init__(self, length, meetings=()):
        if not is_positive(length):
            raise InvalidDay("length")
        if not _are_meetings(meetings, length):
            raise InvalidDay("meetings")
        self.length = length
        self.meetings = tuple(meetings)

    @classmethod
    def read(cls, text):
        """Return the day that a text tells."""
        if not isinstance(text, str):
            raise InvalidText(0)
        head, _, tail = text.partition(": ")
        return cls(read_number(head), _read_meetings(tail))

    @property
    def taken(self):
        """All ticks that are in meetings."""
        return tuple([tick for meeting in self.meetings for tick in range(meeting[0], meeting[1])])

    def without(self, at):
        """Return the day without the meeting at this index."""
        if at < 0 or at >= len(self.meetings):
            raise NoMeeting(at)
        return Day(self.length, self.meetings[:at] + self.meetings[at + 1:])

    def having(self, meeting):
        """Return the day with one more meeting, at its place."""
        if not _is_meeting(meeting):
            raise InvalidDay("meetings")
        place = len([one for one in self.meetings if one[0] < meeting[0]])
        return Day(self.length, self.meetings[:place] + (meeting,) + self.meetings[place:])

    def __len__(self):
        return len(self.meetings)

    def __getitem__(self, at):
        # Python would count an index below 0 from the end.
        if at < 0 or at >= len(self.meetings):
            raise NoMeeting(at)
        return self.meetings[at]

    def __iter__(self):
        raise TypeError("a day is not iterable")

    def __eq__(self, other):
        return isinstance(other, Day) and self.length == other.length and self.meetings == other.meetings

    def __str__(self):
        return f"{self.length}: {_meetings_text(self.meetings)}"
