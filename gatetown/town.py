"""A town: the kernel, and tasks that run side by side, each in its own stretch."""

from gatetown.errors import TooLong
from gatetown.kernel import BEGIN, BEHIND_GIVEN, GOING, HOW, LENGTH, NEXT_GIVEN, RECORD, TASK, kernel_text
from gatetown.linker import linked
from gatetown.machine import WORDS, first_state
from gatetown.rows import MOST_WORDS, assembled
from gatetown.running import run, without_noughts

# The ends by the word of a record that tells how its task is.
ENDS = ("ended", "going", "fault")


def kernel_of(tasks, quota):
    # A tuple of the kernel's words and the table's place.
    module = assembled(kernel_text(tasks, quota))
    return (linked([module])[0], module[3]["table"])


def laid_from(place, lists):
    # The tuples (begin, length) of lists that are laid one behind the other.
    laid = []
    for each in lists:
        laid.append((place, len(each)))
        place = place + len(each)
    return laid


def fill_record(words, first, task, stretch, papers):
    words[first + BEGIN] = stretch[0]
    words[first + LENGTH] = stretch[1]
    words[first + HOW] = GOING
    words[first + NEXT_GIVEN] = papers[0]
    words[first + BEHIND_GIVEN] = papers[0] + papers[1]
    words[first + TASK] = task


def town(images, given, quota):
    kernel = kernel_of(len(images), quota)
    words = list(kernel[0])
    papers = laid_from(len(words), given)
    for each in given:
        words.extend([word % WORDS for word in each])
    stretches = laid_from(len(words), images)
    for image in images:
        words.extend(image)
    if len(words) > MOST_WORDS:
        raise TooLong()
    for task, stretch in enumerate(stretches):
        fill_record(words, kernel[1] + RECORD * task, task, stretch, papers[task])
    return (without_noughts(dict(enumerate(words))), stretches)


def paired(told):
    # The kernel tells a task's number and then its word; a number at the end still waits for its word.
    return [(told[place], told[place + 1]) for place in range(0, len(told) - 1, 2)]


def town_run(images, given, quota, beats):
    answer = run(first_state(), town(images, given, quota)[0], beats)
    memory = answer[1]
    table = kernel_of(len(images), quota)[1]
    ends = [ENDS[memory.get(table + RECORD * task + HOW, 0)] for task in range(len(images))]
    return (paired(answer[2]), ends, memory, answer[3])
