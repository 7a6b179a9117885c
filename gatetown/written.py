"""Numbers and names as texts write them."""

LETTERS = "abcdefghijklmnopqrstuvwxyz"
FIGURES = "0123456789"


def are_of(text, signs):
    return all([sign in signs for sign in text])


def is_lettered(text, most):
    return 1 <= len(text) <= most and are_of(text, LETTERS)


def number_written(text, most):
    # A text of more figures than the greatest number has is not even read, however long it is.
    if text == "" or len(text) > len(str(most)) or not are_of(text, FIGURES):
        return None
    if text[0] == "0" and text != "0":
        return None
    number = int(text)
    return number if number <= most else None
