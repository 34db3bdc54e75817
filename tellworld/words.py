"""Names, words and whole numbers: what counts as one, of anything; and the words of a row (points 2, 6, 7)."""

MOST_IN_NAME = 8
MOST_IN_WORD = 12
NO_NAMES = ("it", "other", "here", "the", "a", "undo", "restart")
NO_WORDS = ("the", "a")


def is_small_letters(thing, most):
    # Compared sign by sign, since islower and isalpha let letters beyond ASCII by.
    return isinstance(thing, str) and 1 <= len(thing) <= most and all(["a" <= sign <= "z" for sign in thing])


def is_name(thing):
    return is_small_letters(thing, MOST_IN_NAME) and thing not in NO_NAMES


def is_word(thing):
    return is_small_letters(thing, MOST_IN_WORD) and thing not in NO_WORDS


def is_same_text(thing, text):
    # The kind is asked first, since == of a strange object may tell anything, or fail.
    return isinstance(thing, str) and thing == text


def is_one_of(thing, texts):
    return isinstance(thing, str) and thing in texts


def is_whole(thing):
    # True and False are ints to Python, but no whole numbers here.
    return isinstance(thing, int) and not isinstance(thing, bool)


def is_list_up_to(thing, most):
    return isinstance(thing, list) and len(thing) <= most


def words_of(row):
    # Split at the blank itself: a bare split() would part words at tabs and row ends too, and the
    # empty texts that this leaves between two blanks are dropped below.
    return tuple([word for word in row.split(" ") if word != "" and word not in NO_WORDS])
