"""Words as exchanges of the signs of a book: the sign with the number i becomes the one with the number i in it."""


def composed(outer, word, signs):
    """The exchange that does what the word does, and then what the outer one does."""
    return "".join([outer[signs.index(sign)] for sign in word])


def said_of(name, place, word):
    """The answer at a place of a handed name, after this exchange."""
    if word == word[0] * len(word):
        return word[0]
    return name, place, word


def exchanged_answer(answer, word, signs):
    """The answer that comes of this one by one exchange more."""
    if answer is None:
        return None
    if isinstance(answer, str):
        return word[signs.index(answer)]
    name, place, before = answer
    return said_of(name, place, composed(word, before, signs))
