"""The kernel: as rows, and by its plain meaning."""

from gatetown.machine import CALLED, PLACES, RUNG, WORDS
from gatetown.running import ASK, END, NONE_LEFT, TELL

RECORD = 16

# Where the words of a task's record stand in it.
PLACE = 0
WORD_A = 1
WORD_X = 2
BEGIN = 3
LENGTH = 4
HOW = 5
NEXT_GIVEN = 6
BEHIND_GIVEN = 7
TASK = 8

ENDED = 0
GOING = 1
FAULT = 2

# Every trap, and the first state, leads to the first of these rows. Behind the first few, x is the place of a record.
ROWS = (
    "give table", "give now",
    "own 3", "zero first",
    "load now", "store start", "move 0",
    "own 2", "into 0", "own 0", "into 1", "own 1", "into 2",
    "own 3", "take three", "zero called", "take one", "zero seek",
    "fault:", "set 2", "into 5", "goto seek",
    "called:", "own 4", "zero ended", "take one", "zero tell", "take one", "zero seek", "take one", "zero ask",
    "goto fault",
    # The number of this call is in a, and it is the word for a task that is ended, too.
    "ended:", "into 5", "goto seek",
    "tell:", "from 8", "own 6", "from 1", "own 6", "goto seek",
    "ask:", "from 6", "store given", "from 7", "take given", "zero none",
    "load given", "move 0", "from 0", "store taken",
    "load start", "move 0", "load taken", "into 1", "load given", "add one", "into 6", "goto seek",
    "none:", "set 0", "take one", "into 1", "goto seek",
    # Seeking from the last record on makes the first one the first that is looked at.
    "first:", "load last", "store start", "move 0",
    "seek:", "move 1", "take last", "zero round", "move 1", "add sixteen", "goto look",
    "round:", "set table",
    "look:", "move 0", "from 5", "take one", "zero go", "move 1", "take start", "zero halt", "goto seek",
    "halt:", "own 5",
    "go:", "move 1", "store now", "from 3", "own 11", "from 4", "own 12",
    "from 0", "own 10", "from 1", "own 8", "from 2", "own 9", "load quota", "own 13", "back 0",
    "now:", "word 0", "start:", "word 0", "given:", "word 0", "taken:", "word 0",
    "one:", "word 1", "three:", "word 3", "sixteen:", "word 16")


def kernel_text(tasks, quota):
    size = RECORD * tasks
    last = size - RECORD
    rows = list(ROWS) + ["quota:", f"word {quota}", "last:", f"word table+{last}", "table:", f"space {size}"]
    return "\n".join(rows)


def ask_for(record, memory):
    if record[NEXT_GIVEN] == record[BEHIND_GIVEN]:
        record[WORD_A] = NONE_LEFT
    else:
        record[WORD_A] = memory.get(record[NEXT_GIVEN] % PLACES, 0)
        record[NEXT_GIVEN] = (record[NEXT_GIVEN] + 1) % WORDS


def do_call(record, number, memory):
    # Tells the list of the words told.
    if number == TELL:
        return [record[TASK], record[WORD_A]]
    if number == END:
        record[HOW] = ENDED
    elif number == ASK:
        ask_for(record, memory)
    elif number > ASK:
        record[HOW] = FAULT
    return []


def do_trap(record, saved, memory):
    record[PLACE] = saved[1]
    record[WORD_A] = saved[2]
    record[WORD_X] = saved[3]
    if saved[0] == CALLED:
        return do_call(record, saved[4], memory)
    if saved[0] != RUNG:
        record[HOW] = FAULT
    return []


def next_going(records, now):
    for step in range(1, len(records) + 1):
        task = (now + step) % len(records)
        if records[task][HOW] == GOING:
            return task
    return None


def kernel_step(records, now, saved, memory):
    after = [list(record) for record in records]
    told = []
    behind = len(after) - 1
    if saved[0] != 0:
        told = do_trap(after[now], saved, memory)
        behind = now
    task = next_going(after, behind)
    if task is None:
        return (after, now, told, True)
    return (after, task, told, False)
