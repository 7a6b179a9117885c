"""The linker: objects are laid one behind the other, and their names become places."""

from gatetown.errors import GivenTwice, Lacking, TooLong
from gatetown.machine import PLACES
from gatetown.rows import MOST_WORDS


def begins_of(objects):
    begins = []
    place = 0
    for each in objects:
        begins.append(place)
        place = place + len(each[0])
    if place > MOST_WORDS:
        raise TooLong()
    return begins


def given_places(objects, begins):
    places = {}
    for each, begin in zip(objects, begins):
        for name, place in each[3].items():
            if name in places:
                raise GivenTwice(name)
            places[name] = begin + place
    return places


def look_for_needed(objects, places):
    for each in objects:
        # The order of places is asked for, and the list may stand in any order.
        for place, name in sorted(each[2]):
            if name not in places:
                raise Lacking(name)


def with_added(word, place):
    number = word % PLACES
    return word - number + (number + place) % PLACES


def words_linked(each, begin, places):
    words = list(each[0])
    for place in each[1]:
        words[place] = with_added(words[place], begin)
    for place, name in each[2]:
        words[place] = with_added(words[place], places[name])
    return words


def linked(objects):
    begins = begins_of(objects)
    places = given_places(objects, begins)
    look_for_needed(objects, places)
    words = []
    for each, begin in zip(objects, begins):
        words.extend(words_linked(each, begin, places))
    return (words, begins)
