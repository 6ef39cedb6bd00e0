"""What the checker has to accept, told as point [16] of the document tells it; slow, and of small numbers only."""

from tests.drawn import answer_of, does_fit, drawn_of, first_foreign_name
from tests.pairing import at_nought, next_pairs, rest_of
from tests.plans import plan_of
from tests.tracing import covers_once, is_end, next_rests
from wovenplaces.books import Book
from wovenplaces.expressions import read_expression

LENGTHS = {"alike": 4, "parted": 5, "full": 3, "silent": 4, "lost": 5, "shown": 6, "keeps": 4}
ROWS = {"alike": (2, 3), "parted": (2, 3)}
HANDED = {"lost": 3, "shown": 3, "keeps": 3}
PLACES = {"parted": (4,), "silent": (3,), "lost": (4,), "shown": (4, 5)}


def is_number(value):
    return type(value) is int and value >= 0


def is_power(value, base):
    while is_number(value) and value > 0 and value % base == 0:
        value //= base
    return is_number(value) and value == 1


def is_tuple(value, many):
    return type(value) is tuple and len(value) == many


def plan_told(drawn, value):
    """The plan that a text tells, None if it tells none that fits."""
    if type(value) is not str:
        return None
    try:
        plan = plan_of(read_expression(value))
    except ValueError:
        return None
    return plan if first_foreign_name(drawn, plan) is None and does_fit(drawn, plan) else None


def is_word(drawn, value):
    return type(value) is str and len(value) == len(drawn.signs) and set(value) <= set(drawn.signs)


def rest_told(drawn, value):
    """The rest that a tuple tells, None if it tells none."""
    if not is_tuple(value, 4):
        return None
    plan = plan_told(drawn, value[0])
    if plan is None or not is_power(value[1], drawn.base) or not is_number(value[2]) or not is_word(drawn, value[3]):
        return None
    rest = (plan, *value[1:])
    return rest if rest_of(drawn, *rest) == rest else None


def first_rest(drawn, plan):
    return rest_of(drawn, plan, 1, 0, drawn.signs)


def is_alike(drawn, one, other, certificate):
    if not all(is_tuple(pair, 2) for pair in certificate):
        return False
    pairs = [tuple(rest_told(drawn, rest) for rest in pair) for pair in certificate]
    if any(None in pair for pair in pairs) or len(set(pairs)) < len(pairs):
        return False
    if pairs[:1] != [(first_rest(drawn, one), first_rest(drawn, other))]:
        return False
    for left, right in pairs:
        if is_end(left) and is_end(right):
            if left != right:
                return False
        elif at_nought(drawn, left) != at_nought(drawn, right):
            return False
        elif not set(next_pairs(drawn, left, right)) <= set(pairs):
            return False
    return True


def closed_rests(drawn, plan, certificate):
    """The rests of a certificate, None if they are not as for "full", apart from the answers at nought."""
    rests = [rest_told(drawn, value) for value in certificate]
    if None in rests or len(set(rests)) < len(rests) or rests[:1] != [first_rest(drawn, plan)]:
        return None
    return rests if all(set(next_rests(drawn, rest)) <= set(rests) for rest in rests) else None


def is_full(drawn, plan, certificate):
    rests = closed_rests(drawn, plan, certificate)
    return rests is not None and all(is_end(rest) or at_nought(drawn, rest) is not None for rest in rests)


def is_lost(drawn, plan, name, place, certificate):
    rests = closed_rests(drawn, plan, certificate)
    for rest in rests or []:
        said = at_nought(drawn, rest)
        if isinstance(said, tuple) and said[0] == name:
            if said[1] == place or is_end(rest) and place > said[1] and (place - said[1]) % rest[1] == 0:
                return False
    return rests is not None


def is_kept_class(drawn, plan, name, value):
    if not is_tuple(value, 3) or not is_tuple(value[2], 4):
        return False
    a, b, (own, A, B, word) = value
    if not all(is_number(number) for number in (a, b, A, B)) or not is_word(drawn, word) or type(own) is not str:
        return False
    if own != name or len(set(word)) < len(word):
        return False
    if a == 0:
        return A == 0 and answer_of(drawn, plan, b) == (name, B, word)
    if not is_power(a, drawn.base) or not is_power(A, drawn.base):
        return False
    return rest_of(drawn, plan, a, b, drawn.signs) == (("name", (name,), ()), A, B, word)


def is_kept(drawn, plan, name, certificate):
    if not all(is_kept_class(drawn, plan, name, value) for value in certificate):
        return False
    ends = [end for _, _, end in certificate]
    # In the tests only what has been spoiled has numbers that are as large as this.
    if any(number > 10 ** 5 for a, b, end in certificate for number in (a, b, *end[1:3])):
        return False
    return covers_once([value[:2] for value in certificate]) and covers_once([end[1:3] for end in ends])


def is_right(claim, certificate):
    """Whether the certificate is one for the claim."""
    if type(claim) is not tuple or not claim or type(claim[0]) is not str or LENGTHS.get(claim[0]) != len(claim):
        return False
    try:
        drawn = drawn_of(Book.read(claim[1]))
    except ValueError:
        return False
    word = claim[0]
    plans = [plan_told(drawn, claim[at]) for at in ROWS.get(word, (2,))]
    if None in plans or not all(is_number(claim[at]) for at in PLACES.get(word, ())):
        return False
    if word in HANDED and not (type(claim[3]) is str and claim[3] in drawn.handed) or type(certificate) is not tuple:
        return False
    if word in ("parted", "silent", "shown"):
        answers = [answer_of(drawn, plan, claim[-1]) for plan in plans]
        return certificate == () and {
            "parted": lambda: answers[0] != answers[1], "silent": lambda: answers[0] is None,
            "shown": lambda: isinstance(answers[0], tuple) and answers[0][:2] == claim[3:5]}[word]()
    return {"alike": lambda: is_alike(drawn, *plans, certificate), "full": lambda: is_full(drawn, *plans, certificate),
            "lost": lambda: is_lost(drawn, *plans, claim[3], claim[4], certificate),
            "keeps": lambda: is_kept(drawn, *plans, claim[3], certificate)}[word]()


# Claims with right certificates, by the second account of rests

def text_rest(text_of, rest):
    return (text_of(rest[0]), *rest[1:])


def pairs_from(drawn, one, other, text_of):
    """The certificate for "alike": all pairs to which the first one leads."""
    waiting, pairs = [(first_rest(drawn, one), first_rest(drawn, other))], []
    while waiting:
        pair = waiting.pop(0)
        if pair not in pairs:
            pairs.append(pair)
            waiting += [] if all(is_end(rest) for rest in pair) else next_pairs(drawn, *pair)
    return tuple(tuple(text_rest(text_of, rest) for rest in pair) for pair in pairs)


def rests_from(drawn, plan, text_of):
    """The certificate for "full" and "lost": all rests to which the first one leads."""
    waiting, rests = [first_rest(drawn, plan)], []
    while waiting:
        rest = waiting.pop(0)
        if rest not in rests:
            rests.append(rest)
            waiting += next_rests(drawn, rest)
    return tuple(text_rest(text_of, rest) for rest in rests)
