"""A court as an object."""

from oneistrue.courtchecker import have_as_many, is_court
from oneistrue.courts import kept, rights_of
from oneistrue.courttexts import court_text, read_court
from oneistrue.merging import turned
from oneistrue.usable import is_case, need


class Court:
    """A court that does not change."""

    def __init__(self, court):
        need(is_court(court), "court")
        self._cases = court

    @property
    def inner(self):
        return self._cases

    @property
    def weights(self):
        return tuple([case[0] for case in self._cases])

    @property
    def rights(self):
        return rights_of(self._cases)

    @property
    def as_text(self):
        return court_text(self._cases)

    def __len__(self):
        return len(self._cases)

    def __iter__(self):
        return iter(self._cases)

    def __contains__(self, x):
        # What is no case, with True for 1 in it, may still be equal to one.
        return is_court((x,)) and x in self._cases

    def __eq__(self, other):
        return isinstance(other, Court) and self._cases == other._cases

    def __getitem__(self, at):
        need(is_case(self._cases, at), "here")
        return self._cases[at]

    def __add__(self, other):
        need(isinstance(other, Court), "other")
        need(have_as_many(self._cases[0][3], other._cases[0][3]), "other")
        return Court(self._cases + other._cases)

    def having(self, lot):
        return Court(kept(self._cases, lot))

    def turning(self):
        return Court(turned(self._cases))


def court_from(text):
    return Court(read_court(text))
