"""What the desk writes to a side."""

from oneistrue.beliefs import shares_of
from oneistrue.hearingkinds import is_hearing
from oneistrue.outcomes import is_told, need_pair, weights_for
from oneistrue.telling import tellers_of
from oneistrue.usable import is_side, need
from oneistrue.wordings import quotient_word


def belief_row(weights):
    """The row on what may be the case, for a pair that is told."""
    shares = [(here, share) for here, share in enumerate(shares_of(weights)) if share[0] > 0]
    words = ", ".join([f"{here} {quotient_word(share)}" for here, share in shares])
    return f"Belief: {words}."


def untold_row(lot):
    """Likewise for a pair that nobody tells, but the cases of the lot could."""
    words = ", ".join([str(here) for here in lot])
    return f"Nobody tells this; it could be told in {words}."


def last_row(court, hearing, plea, reply):
    weights = weights_for(court, hearing, plea, reply)
    if is_told(weights):
        return belief_row(weights)
    return untold_row(tellers_of(court, plea, reply))


def first_rows(side, plea, reply, award):
    """The rows that are not the same for both sides."""
    word = quotient_word(award)
    if side == 0:
        return ["To the claimant.", f"You told case {plea}, the defendant told case {reply}.", f"You get {word}."]
    return ["To the defendant.", f"You told case {reply}, the claimant told case {plea}.", f"You pay {word}."]


def letter(court, hearing, side, plea, reply):
    need(is_hearing(court, hearing), "hearing")
    need(is_side(side), "side")
    need_pair(court, plea, reply)
    rows = first_rows(side, plea, reply, hearing[2][plea][reply])
    return "\n".join(rows + [last_row(court, hearing, plea, reply)])
