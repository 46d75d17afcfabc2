"""What is asked of pictures, and of lists of signs, where a stock is wanted."""

from brushedsigns.cuts import bars_in, tables_of
from brushedsigns.errors import BadPicture, BadSigns, NoPutting
from brushedsigns.pictures import inner_of, is_framed, is_picture
from brushedsigns.values import is_name, is_tuple

MOST_SIGNS = 30

# The stock is known to be one; the other thing is any object.


def is_picture_of(stock, thing):
    """Whether the thing is a picture whose parts and frames are of the stock."""
    if not is_picture(thing):
        return False
    parts, frames = stock
    return _is_filled_by([part[0] for part in parts], [frame[0] for frame in frames], thing)


def is_put_picture_of(stock, thing):
    """Whether the thing is a picture of the stock that has a putting."""
    return is_picture_of(stock, thing) and _has_putting(thing)


def check_picture_of(stock, thing):
    """Raises BadPicture for any object that is no picture of the stock."""
    if not is_picture_of(stock, thing):
        raise BadPicture("this is no picture of the stock")


def check_put_picture_of(stock, thing):
    """Raises BadPicture for any object that is no picture of the stock, NoPutting for one without a putting."""
    check_picture_of(stock, thing)
    if not _has_putting(thing):
        raise NoPutting("the picture has no putting")


def check_signs(stock, thing):
    """Raises BadSigns for any object that is no list of signs of the stock."""
    if not is_tuple(thing, 1, MOST_SIGNS) or not all([_is_sign_told(stock, entry) for entry in thing]):
        raise BadSigns("this is no list of signs of the stock")
    if len(set([word for word, _ in thing])) < len(thing):
        raise BadSigns("a word stands twice in the list of signs")


def _is_sign_told(stock, thing):
    return is_tuple(thing, 2, 2) and is_name(thing[0]) and is_put_picture_of(stock, thing[1])


def _is_filled_by(parts, frames, picture):
    """Whether all parts and frames of the picture have names that are among these."""
    for cell in picture:
        if cell[4][1] not in (frames if is_framed(cell) else parts):
            return False
        if is_framed(cell) and not _is_filled_by(parts, frames, inner_of(cell)):
            return False
    return True


def _has_putting(picture):
    return not bars_in(picture, tables_of(picture))
