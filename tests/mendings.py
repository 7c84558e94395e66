"""Deeds once more, slow and plain: all lists of them gone through, as the document's words have it."""

import itertools
import random

from tests.oracle import CLOSING, LETTERS, OPENING, clean

BRACKETS = OPENING + CLOSING
WORDS = ("put", "strike", "turn")
# All words that can be asked for.
ALL_WORDS = tuple(words for many in (1, 2, 3) for words in itertools.combinations(WORDS, many))


def deeds_at(text, place):
    """All deeds of one place but those that put."""
    if place == len(text) or text[place] in LETTERS:
        return []
    turns = [(place, "turn", bracket) for bracket in BRACKETS if bracket != text[place]]
    return [(place, "strike", ""), *turns]


def deed_lists(text, many, place=0):
    """All lists of just so many deeds of a text, from a place on."""
    if place > len(text):
        if many == 0:
            yield []
        return
    for puts in range(many + 1):
        for several in itertools.product(BRACKETS, repeat=puts):
            ahead = [(place, "put", bracket) for bracket in several]
            for rest in deed_lists(text, many - puts, place + 1):
                yield ahead + rest
            if many > puts:
                for deed in deeds_at(text, place):
                    for rest in deed_lists(text, many - puts - 1, place + 1):
                        yield [*ahead, deed, *rest]


def told_by(text, deeds):
    """The text behind the deeds: first what is put at each place, then what becomes of its own sign."""
    own = [*text, ""]
    put = [""] * len(own)
    for place, word, sign in deeds:
        if word == "put":
            put[place] += sign
        else:
            own[place] = sign
    return "".join(ahead + sign for ahead, sign in zip(put, own))


def least_mendings(text):
    """All least mendings of a text, in their order."""
    for many in itertools.count():
        found = [deeds for deeds in deed_lists(text, many) if clean(told_by(text, deeds))]
        if found:
            return sorted(found)


def close(open_ones, bracket):
    """The open brackets behind one more bracket, or None where it closes none."""
    if bracket in OPENING:
        return open_ones + bracket
    opening = OPENING[CLOSING.index(bracket)]
    return open_ones[:-1] if open_ones.endswith(opening) else None


def mendings_within(text, many, place=0, open_ones="", words=WORDS):
    """All mendings by words with at most so many deeds, in no order; none is begun that no more deeds make clean."""
    if len(open_ones) > many + len(text) - place:
        return
    if place == len(text) and open_ones == "":
        yield []
    if place < len(text):
        if text[place] in LETTERS:
            yield from mendings_within(text, many, place + 1, open_ones, words)
        else:
            still = close(open_ones, text[place])
            if still is not None:
                yield from mendings_within(text, many, place + 1, still, words)
    if many == 0:
        return
    for deed in [(place, "put", bracket) for bracket in BRACKETS] + deeds_at(text, place):
        still = open_ones if deed[2] == "" else close(open_ones, deed[2])
        if deed[1] in words and still is not None:
            beyond = place if deed[1] == "put" else place + 1
            for rest in mendings_within(text, many - 1, beyond, still, words):
                yield [deed, *rest]


def pruned_least_mendings(text, words=WORDS):
    """As least_mendings, but for somewhat longer texts, and by words; none where there are no such mendings."""
    # Where a text can be mended by words, one deed for each bracket is enough.
    for many in range(len(text) + 1):
        found = sorted(mendings_within(text, many, words=words))
        if found:
            return found
    return []


def plain_least_by(text, words):
    """As pruned_least_mendings, but plainly all lists of deeds gone through."""
    for many in range(len(text) + 1):
        lists = [deeds for deeds in deed_lists(text, many) if all(word in words for _, word, _ in deeds)]
        found = [deeds for deeds in lists if clean(told_by(text, deeds))]
        if found:
            return sorted(found)
    return []


def is_list_of_deeds(text, thing):
    """Promises 11 and 12: the deeds are such, and stand as they may."""
    if not isinstance(thing, list):
        return False
    singles = [(place, "put", bracket) for place in range(len(text) + 1) for bracket in BRACKETS]
    for place in range(len(text)):
        singles.extend(deeds_at(text, place))
    if not all(any(is_same(one, single) for single in singles) for one in thing):
        return False
    places = [one[0] for one in thing]
    if places != sorted(places):
        return False
    words = {place: [one[1] for one in thing if one[0] == place] for place in places}
    return all("put" == word for several in words.values() for word in several[:-1])


def is_same(thing, deed):
    """Whether a thing is just this deed, and no number in it a truth."""
    return isinstance(thing, tuple) and [type(part) for part in thing] == [int, str, str] and thing == deed


def some_texts(many, shortest, longest, seed, signs="a" + BRACKETS):
    """Texts that look like chance but are the same each time."""
    chance = random.Random(seed)
    return ["".join(chance.choices(signs, k=chance.randrange(shortest, longest + 1))) for _ in range(many)]


def few_by_checker(text):
    """The least number by the sums of promise 15, where each entry is as great as these let it be."""
    size = len(text)
    table = {(place, place): 0 for place in range(size + 1)}
    for begin in range(size - 1, -1, -1):
        for end in range(begin + 1, size + 1):
            rest = table[begin + 1, end]
            if text[begin] in LETTERS:
                table[begin, end] = rest
                continue
            sums = [rest + 1]
            for place in range(begin + 1, end):
                if text[place] not in LETTERS:
                    turned = min((text[begin] != one) + (text[place] != other) for one, other in zip(OPENING, CLOSING))
                    sums.append(table[begin + 1, place] + table[place + 1, end] + turned)
            table[begin, end] = min(sums)
    return table[0, size]
