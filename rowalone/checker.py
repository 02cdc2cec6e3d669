"""Claims, which tell a word and the arguments of its function, and what can be concluded from them."""

from rowalone.bars import barring, holds, keeps
from rowalone.blame import is_to_blame, is_forced
from rowalone.boxes import check_box, in_box, only_ends, within
from rowalone.court import Gap, Single, court, is_verdict
from rowalone.cuts import is_barring_cut
from rowalone.errors import InvalidPaper, Refused
from rowalone.forget import restriction
from rowalone.limits import NoRest, is_limit
from rowalone.nets import flow_system, is_flow
from rowalone.pairs import is_turning
from rowalone.papers import check_combination, check_paper, check_plain, point_or_paper
from rowalone.ranges import check_least
from rowalone.rings import is_barring_ring
from rowalone.systems import follows
from rowalone.webs import is_web_ring
from rowalone.wholes import is_whole_gap

# How many arguments the function of each word takes.
ARGUMENTS = {"blame": 3, "combination": 2, "cut": 3, "flow": 3, "forced": 5, "least": 4, "limit": 3, "paper": 3,
             "plain": 3, "ring": 3, "solution": 2, "turning": 2, "verdict": 2, "web_ring": 2, "whole_gap": 2}


def claim_words():
    """The lot of the words of claims."""
    return tuple(sorted(ARGUMENTS))


def check_claim(claim):
    """Whether any value is a claim that holds."""
    if not isinstance(claim, tuple) or not claim or not isinstance(claim[0], str):
        return False
    word, *given = claim
    if word not in ARGUMENTS or len(given) != ARGUMENTS[word]:
        return False
    try:
        return _is_true(word, given)
    except InvalidPaper:
        return False


def _is_true(word, given):
    """Whether the function of a word returns True, or returns nothing, for some arguments."""
    if word == "combination":
        check_combination(*given)
    elif word == "least":
        check_least(*given)
    elif word == "paper":
        check_paper(*given)
    elif word == "plain":
        check_plain(*given)
    elif word in ("cut", "ring", "flow"):
        return _is_true_of_net(word, given)
    else:
        return _is_true_of_system(word, given)
    return True


def _is_true_of_net(word, given):
    """The same for a word about a net."""
    if word == "cut":
        return is_barring_cut(*given)
    if word == "ring":
        return is_barring_ring(*given)
    return is_flow(*given)


def _is_true_of_system(word, given):
    """The same for a word about a system, whose function returns True or False."""
    if word == "solution":
        return holds(*given)
    if word == "blame":
        return is_to_blame(*given)
    if word == "forced":
        return is_forced(*given)
    if word == "limit":
        return is_limit(*given)
    if word == "turning":
        return is_turning(*given)
    if word == "verdict":
        return is_verdict(*given)
    if word == "web_ring":
        return is_web_ring(*given)
    return is_whole_gap(*given)


def concluded(system, box, claims):
    """The lot of the words that are shown of a system and a box by claims that hold."""
    check_box(system, box)
    true = [claim for claim in claims if check_claim(claim)]
    is_barred = len(barring(system, box)) > 0
    found = []
    if is_barred or any([_shows_empty(system, box, claim) for claim in true]):
        found.append("empty")
    if any([_shows_gap(system, claim) for claim in true]) or (found and not is_barred):
        found.append("gap")
    is_single = any([_shows_single(system, claim, true) for claim in true])
    if is_single:
        found.append("single")
    if any([_shows_solution(system, box, claim) for claim in true]) or (is_single and not is_barred):
        found.append("solution")
    return tuple(found)


def _shows_solution(system, box, claim):
    """Whether a claim that holds has a solution in the box."""
    word, over, *given = claim
    if word not in ("solution", "least", "flow") or over.names != system.names:
        return False
    point = given[-1][1] if word == "least" else given[-1]
    return in_box(point, box) and all([keeps(row, point) for row in system.rows])


def _is_part(one, other):
    """Whether a system is a restriction of another one."""
    return all([name in other.names for name in one.names]) and one == restriction(other, one.names)


def _shows_single(system, claim, true):
    """Whether a claim that holds, perhaps with claims plain, shows that a system is single."""
    if claim[0] != "verdict" or not isinstance(claim[2], Single):
        return False
    over = claim[1]
    if _is_part(system, over):
        return True
    plain = [other[2] for other in true if other[0] == "plain" and other[1] == over]
    if over.names != system.names or not all([row in system.rows for row in over.rows]):
        return False
    return all([row in over.rows or row in plain for row in system.rows])


def _shows_gap(system, claim):
    """Whether a claim that holds has a Gap of a restriction of a system."""
    return claim[0] == "verdict" and isinstance(claim[2], Gap) and _is_part(claim[1], system)


def _empty_box(claim):
    """The box of which a claim that holds shows that it is empty, None if it shows this of none."""
    word = claim[0]
    if word in ("paper", "cut") or (word == "limit" and isinstance(claim[3], NoRest)):
        return claim[2]
    if word == "blame":
        return only_ends(claim[2], claim[3])
    if word == "verdict" and isinstance(claim[2], Gap):
        return claim[2].box
    return None


def _rows_of(claim):
    """The rows of the system of a claim, or of the flows of its net, None if these have no system."""
    if claim[0] != "cut":
        return claim[1].rows
    try:
        return flow_system(claim[1]).rows
    except Refused:
        return None


def _shows_empty(system, box, claim):
    """Whether a claim that holds shows that a box of a system is empty."""
    other = _empty_box(claim)
    if other is None or claim[1].names != system.names or not within(box, other):
        return False
    rows = _rows_of(claim)
    if rows is None:
        return False
    return all([any([follows(one, row) for one in system.rows]) for row in rows])


def gathered(system, box):
    """A claim with a verdict and one with a solution or a paper for a box."""
    check_box(system, box)
    verdict = ("verdict", system, court(system))
    word, found = point_or_paper(system, box)
    if word == "point":
        return (verdict, ("solution", system, found))
    return (verdict, ("paper", system, box, found))
