"""What is left over of a text, and where two rules of a book overlap."""

from shrunkalike.checks import LONGEST_LEFT
from shrunkalike.checks import ascending_texts


def first_rights(rules):
    """For each left side the number and the right side of its first rule."""
    found = {}
    for number, (left, right) in enumerate(rules):
        if left not in found:
            found[left] = (number, right)
    return found


def numbers_of(rules):
    """For each left side the numbers of its rules, ascending."""
    found = {}
    for number, (left, _) in enumerate(rules):
        found[left] = found.get(left, ()) + (number,)
    return found


def first_fit(rights, tail):
    """The least number of a rule whose left side ends the tail, with its sides; or None."""
    best = None
    for start in range(len(tail)):
        left = tail[start:]
        if left in rights and (best is None or rights[left][0] < best[0]):
            number, right = rights[left]
            best = (number, left, right)
    return best


def left_over(rights, text):
    """What the pile is behind the last sign of the text; the rights are those of first_rights."""
    return left_of_all(rights, [(text, False)])


def left_behind(rights, end, text, is_end):
    """What the pile is behind the last sign of the text if it is an end at first; the text may be one, too."""
    return left_of_all(rights, [(end, True), (text, is_end)])


def left_of_all(rights, pieces):
    """What the pile is behind texts that follow one another; each comes with whether it is an end."""
    pile = []
    for text, is_end in pieces:
        fresh = 0
        for place, sign in enumerate(text):
            # In an end stands no left side, so nothing can be used where nothing else is reached.
            if is_end and (not pile or fresh == LONGEST_LEFT - 1):
                pile.extend(text[place:])
                break
            pile.append(sign)
            fresh += 1
            fit = first_fit(rights, "".join(pile[-LONGEST_LEFT:]))
            while fit is not None:
                _, left, right = fit
                for _ in left:
                    pile.pop()
                if right:
                    pile.append(right)
                fresh = 0
                fit = first_fit(rights, "".join(pile[-LONGEST_LEFT:]))
    return "".join(pile)


def used(rules, text, place, number):
    """The text to which the step leads."""
    left, right = rules[number]
    return text[:place] + right + text[place + len(left):]


def overlap_text(left, place, other):
    """The text in which the left side stands at 0 and the other one at the place, or None."""
    both = min(len(left) - place, len(other))
    if left[place:place + both] != other[:both]:
        return None
    return left + other[both:]


def overlaps_of(rules):
    """All overlaps of the rules, ascending."""
    found = []
    for one, (left, _) in enumerate(rules):
        for other, (right, _) in enumerate(rules):
            for place in range(0 if one < other else 1, len(left)):
                text = overlap_text(left, place, right)
                if text is not None:
                    found.append((len(text), text, one, place, other))
    return tuple([(text, one, place, other) for _, text, one, place, other in sorted(found)])


def steps_of(numbers, text):
    """All steps of the text, ascending; the numbers are those of numbers_of."""
    found = []
    for place in range(len(text)):
        here = []
        for size in range(1, min(LONGEST_LEFT, len(text) - place) + 1):
            here.extend(numbers.get(text[place:place + size], ()))
        found.extend([(place, number) for number in sorted(here)])
    return found


def quarrel_of(rules):
    """The least text with two ends, or None."""
    rights = first_rights(rules)
    over = {}
    for text, one, place, other in overlaps_of(rules):
        aims = [used(rules, text, 0, one), used(rules, text, place, other)]
        for aim in aims:
            if aim not in over:
                over[aim] = left_over(rights, aim)
        if over[aims[0]] != over[aims[1]]:
            return text
    return None


def ends_of_quarrel(rules, text):
    """All ends of the least text with two ends."""
    # All shorter texts have one end each, so each step leads to just one.
    rights = first_rights(rules)
    over = {}
    for place, number in steps_of(numbers_of(rules), text):
        over[left_over(rights, used(rules, text, place, number))] = True
    return ascending_texts(list(over))
