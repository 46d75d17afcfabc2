"""Learning: the books that write samples, pictures with orders, as these are written."""

from brushedsigns.books import MOST_RULES
from brushedsigns.errors import BadSamples, TooMany
from brushedsigns.hands import HANDS, as_written, check_hand
from brushedsigns.orders import is_order, order_bar, order_of
from brushedsigns.stocked import is_put_picture_of
from brushedsigns.stocks import check_stock, entries_by_name
from brushedsigns.values import is_tuple
from brushedsigns.writing import corners_in, kinds_in, write_by

MOST_SAMPLES = 20


def hands_for(stock, samples):
    """The hands by which each order is one of its picture's, ascending."""
    _check_samples(stock, samples)
    return [hand for hand in HANDS if all([order_bar(picture, hand, order) is None for picture, order in samples])]


def choices_for(stock, samples, hand):
    """What each book of the hand says that writes the samples: (kinds, word), ascending, None if none does."""
    _check_samples(stock, samples)
    check_hand(hand)
    wants = _wants_of(stock, samples, hand)
    return None if _fault_in(wants) is not None else _choices(wants)


def learned(stock, samples, hand):
    """The book with a rule for each of the choices, None if no book of the hand writes the samples."""
    choices = choices_for(stock, samples, hand)
    if choices is None:
        return None
    if len(choices) > MOST_RULES:
        raise TooMany("the samples want more rules than a book can have")
    return (hand, tuple([kinds + (word,) for kinds, word in choices]), "across")


def choice_fault(stock, samples, hand):
    """None if some book of the hand writes the samples, else the first sample, or two, for which none does."""
    _check_samples(stock, samples)
    check_hand(hand)
    return _fault_in(_wants_of(stock, samples, hand))


def _check_samples(stock, thing):
    """Raises BadStock, or BadSamples for any object that is no tuple of samples of the stock."""
    check_stock(stock)
    if not is_tuple(thing, 0, MOST_SAMPLES) or not all([_is_sample(stock, entry) for entry in thing]):
        raise BadSamples("these are no samples of the stock")


def _is_sample(stock, thing):
    return is_tuple(thing, 2, 2) and is_put_picture_of(stock, thing[0]) and is_order(thing[0], thing[1])


def _choices(wants):
    return sorted(set([want for wanted in wants for want in wanted]))


def _wants_of(stock, samples, hand):
    entries = entries_by_name(stock)
    return [_wanted(entries, picture, order, hand) for picture, order in samples]


def _wanted(entries, picture, order, hand):
    """The words that the order wants at the crosses on its way: (kinds, word), None if no words write it."""
    sign, asked = write_by(picture, hand, lambda level, path, box: _word_for(level, path, box, order, hand))
    if order_of(sign, hand) != order:
        return None
    return [(kinds_in(entries, level, box), word) for level, _, box, word in asked]


def _word_for(level, path, box, order, hand):
    """The only word by which the order can be written at the cross, if it can."""
    # The cells in the corners of one diagonal are written one way round if the
    # cross is cut across first, the other way round if it is cut down first.
    upper_left, upper_right, lower_left, lower_right = corners_in(level, box)
    left, right = (upper_left, lower_left), (upper_right, lower_right)
    first, second = as_written(hand, "across", left, right)
    _, early = as_written(hand, "down", first[0], first[1])
    late, _ = as_written(hand, "down", second[0], second[1])
    return "across" if order.index(path + (early,)) < order.index(path + (late,)) else "down"


def _fault_in(wants):
    for index, wanted in enumerate(wants):
        if wanted is None:
            return (index, None)
    for second, wanted in enumerate(wants):
        for first in range(second + 1):
            if _clash(wants[first], wanted):
                return (first, second)
    return None


def _clash(one, other):
    """Whether the two want unlike words for the same four kinds."""
    unlike = [(kinds, "down" if word == "across" else "across") for kinds, word in one]
    return any([want in unlike for want in other])
