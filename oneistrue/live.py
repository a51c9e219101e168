"""The live desk: it hears cases and takes edits of its court, day by day.

A state of it is a tuple (court, dealing, files, log, kept): what the properties tell after the events of the log.
"""

from oneistrue.best import best_table
from oneistrue.changes import with_grade, with_right, with_sight, with_weight
from oneistrue.courtchecker import is_court
from oneistrue.dealchecker import is_dealing
from oneistrue.dealing import dealing_of
from oneistrue.dice import told_by
from oneistrue.errors import InvalidEvent, NothingToUndo
from oneistrue.hearings import hearing_of
from oneistrue.kinds import is_number
from oneistrue.leans import wrong_at
from oneistrue.liveevents import is_event, reason_in
from oneistrue.usable import need


def file_of(court, dealing, event):
    """The file of a "hear" event."""
    _, here, ours, theirs = event
    pleas, replies, awards = hearing_of(court, dealing)
    plea, reply = told_by(pleas[here], ours), told_by(replies[here], theirs)
    award = awards[plea][reply]
    return (here, plea, reply, award, wrong_at(court, here, award))


def edited(court, event):
    """The court with the value of an edit."""
    word = event[0]
    if word == "weight":
        return with_weight(court, event[1], event[2])
    if word == "right":
        return with_right(court, event[1], event[2])
    if word == "grade":
        return with_grade(court, event[1], event[2], event[3], event[4])
    return with_sight(court, event[1], event[2])


def behind(state, event):
    """The pair (result, state) with which a state goes on behind an event; it refuses what the desk refuses."""
    court, dealing, files, log, kept = state
    if not is_event(event):
        raise InvalidEvent(event, "form")
    reason = reason_in(court, event)
    if reason is not None:
        raise InvalidEvent(event, reason)
    later = log + (event,)
    if event[0] == "hear":
        told = file_of(court, dealing, event)
        return told, (court, dealing, files + (told,), later, kept)
    changed = edited(court, event)
    table = best_table(changed)
    if is_dealing(changed, dealing):
        return table, (changed, dealing, files, later, kept + 1)
    return table, (changed, dealing_of(changed), files, later, kept)


class LiveDesk:
    """A desk with a court that changes by its events, and files of what it heard."""

    def __init__(self, court):
        need(is_court(court), "court")
        # The states from the first one on, one more than events in the log, so that events can be undone.
        self._states = ((court, dealing_of(court), (), (), 0),)

    @property
    def court_now(self):
        return self._states[-1][0]

    @property
    def table_now(self):
        return best_table(self._states[-1][0])

    @property
    def dealing_now(self):
        return self._states[-1][1]

    @property
    def hearing_now(self):
        court, dealing = self._states[-1][:2]
        return hearing_of(court, dealing)

    @property
    def files(self):
        return self._states[-1][2]

    @property
    def log(self):
        return self._states[-1][3]

    @property
    def kept_deals(self):
        return self._states[-1][4]

    def go(self, event):
        result, state = behind(self._states[-1], event)
        self._states = self._states + (state,)
        return result

    def hear(self, here, ours, theirs):
        return self.go(("hear", here, ours, theirs))

    def set_weight(self, here, weight):
        return self.go(("weight", here, weight))

    def set_right(self, here, right):
        return self.go(("right", here, right))

    def set_grade(self, side, here, exhibit, grade):
        return self.go(("grade", side, here, exhibit, grade))

    def set_sight(self, here, sight):
        return self.go(("sight", here, sight))

    def tried(self, event):
        return behind(self._states[-1], event)[0]

    def undo(self, steps):
        need(is_number(steps), "steps")
        log = self._states[-1][3]
        stay = len(log) - steps
        if stay < 0:
            raise NothingToUndo(steps)
        self._states = self._states[:stay + 1]
        return log[stay:]

    def do_all(self, events, *, keep):
        need(isinstance(events, tuple), "events")
        need(keep is True or keep is False, "keep")
        before = self._states
        try:
            return tuple([self.go(event) for event in events])
        except InvalidEvent:
            if not keep:
                self._states = before
            raise
