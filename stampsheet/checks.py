"""What every part of the program asks of numbers, told once."""


def is_whole_from(thing, lowest):
    # To isinstance True and False are whole numbers; here they are none.
    if isinstance(thing, bool) or not isinstance(thing, int):
        return False
    return lowest <= thing


def is_whole(thing, lowest, highest):
    return is_whole_from(thing, lowest) and thing <= highest
