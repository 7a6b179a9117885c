"""The signs that files' texts have, as words."""

# A sign's number is its place in this text, from 1; the line feed's is 0.
SIGNS = " abcdefghijklmnopqrstuvwxyz0123456789[]()+-&<="


def words_of_text(text):
    words = []
    for sign in text:
        if sign != "\n" and sign not in SIGNS:
            return None
        words.append(0 if sign == "\n" else SIGNS.index(sign) + 1)
    return words


def text_of_words(words):
    signs = []
    row = 0
    for word in words:
        if not 0 <= word <= len(SIGNS):
            return (None, row)
        if word == 0:
            row = row + 1
        signs.append("\n" if word == 0 else SIGNS[word - 1])
    return ("".join(signs), None)
