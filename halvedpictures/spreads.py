"""On which places of a row its halves hang, and on which of these the row hangs when it is put back."""

from halvedpictures.errors import NoNumber, NoPlace
from halvedpictures.kinds import MOST_SIDE, is_whole
from halvedpictures.lifted import rule_of


def many_sums(many):
    """Tell how many sums a row of so many numbers has."""
    return (many + 1) // 2


def among(numbers, many):
    """Tell those of some numbers that are there, where there are so many."""
    return [number for number in numbers if 0 <= number < many]


def pair_at(many, at):
    """Tell the places of a pair, or of the one left over."""
    return among([2 * at, 2 * at + 1], many)


def guessed_at(many, at):
    """Tell the places on which a difference hangs by the rule guess."""
    return among([2 * at, 2 * at + 1, 2 * at + 2], many)


def number_at(many, place):
    """Tell the number of the sum or the difference that stands at a place of a halved row."""
    return place if place < many_sums(many) else place - many_sums(many)


def paired_spread(many, place):
    """Tell the spread by the rules sum and half."""
    return pair_at(many, number_at(many, place))


def leaning_spread(many, place):
    """Tell the spread by the rule lean."""
    at = number_at(many, place)
    if place < many_sums(many):
        return pair_at(many, at)
    sums = among([at - 1, at, at + 1], many_sums(many))
    return [hung for one in sums for hung in pair_at(many, one)]


def guessed_spread(many, place):
    """Tell the spread by the rule guess."""
    at = number_at(many, place)
    if place >= many_sums(many):
        return guessed_at(many, at)
    differences = among([at - 1, at], many // 2)
    return sorted(set([2 * at] + [hung for one in differences for hung in guessed_at(many, one)]))


def places_of_differences(many, numbers):
    """Tell where those of some differences that are there stand in a halved row."""
    return [many_sums(many) + number for number in among(numbers, many // 2)]


def paired_back(many, place):
    """Tell the back spread by the rules sum and half."""
    at = place // 2
    return [at] + places_of_differences(many, [at])


def leaning_back(many, place):
    """Tell the back spread by the rule lean."""
    at = place // 2
    # The one left over is its sum itself, whatever stands beside it.
    if at == many // 2:
        return [at]
    return among([at - 1, at, at + 1], many_sums(many)) + places_of_differences(many, [at])


def first_back(many, at):
    """Tell the back spread of the first one of a pair, or of the one left over, by the rule guess."""
    return [at] + places_of_differences(many, [at - 1, at])


def guessed_back(many, place):
    """Tell the back spread by the rule guess."""
    at = place // 2
    if place == 2 * at:
        return first_back(many, at)
    places = places_of_differences(many, [at]) + first_back(many, at)
    if place + 1 < many:
        places.extend(first_back(many, at + 1))
    return sorted(set(places))


SPREADS = {"sum": paired_spread, "half": paired_spread, "guess": guessed_spread, "lean": leaning_spread}
BACK_SPREADS = {"sum": paired_back, "half": paired_back, "guess": guessed_back, "lean": leaning_back}


def known_spread(word, many, place):
    """Tell the spread of what is known to be a rule's word, a number of numbers and a place of them."""
    deed = SPREADS[word]
    return deed(many, place)


def known_back_spread(word, many, place):
    """Tell the back spread of what is known to be a rule's word, a number of numbers and a place of them."""
    deed = BACK_SPREADS[word]
    return deed(many, place)


def check_row_place(word, many, place):
    """Refuse what is no rule's word, no number of a row's numbers or no place of such a row."""
    rule_of(word)
    if not is_whole(many, 2, MOST_SIDE):
        raise NoNumber(many)
    if not is_whole(place, 0, many - 1):
        raise NoPlace(place)


def spread(word, many, place):
    """Tell the places of a row of so many numbers on which the number at a place of its halves hangs."""
    check_row_place(word, many, place)
    return known_spread(word, many, place)


def back_spread(word, many, place):
    """Tell the places of the halves on which the number at a place of a row of so many numbers hangs."""
    check_row_place(word, many, place)
    return known_back_spread(word, many, place)
