"""The five promises over the whole program, each from a source's text through the shell, town, image and gates."""

import random
import unittest

from gatetown.kinds import looked
from gatetown.machine import asked, beat_of
from gatetown.making import image_of
from gatetown.meaning import meant
from gatetown.processor import net_beats, processor
from gatetown.reading import tree_of
from gatetown.running import as_gates, lone
from gatetown.shell import shell
from gatetown.signs import text_of_words, words_of_text
from gatetown.town import town, town_run
from gatetown.walking import walked
from drawn import drawn_given, drawn_text
from plain import drawn_cases

NET = processor()

PRIMES = """list crossed 30
num n
num k
flag over
part cross
  k = (n+n)
  while (k<30)
    crossed[k] = 1
    k = (k+n)
  end
end
main
  n = 2
  while not(over)
    if (crossed[n]=0)
      tell n
      do cross
    else
      give way
    end
    n = (n+1)
    over = not((n<30))
  end
end"""

SUMS = """num word
num sum
flag more
main
  more = yes
  while more
    ask word
    if (word=65535)
      more = no
    else
      sum = (sum+word)
      tell sum
    end
  end
end""".replace("65535", "(0-1)")

FAULTY = """list few 3
num at
main
  while yes
    few[at] = (at-1)
    tell few[at]
    at = (at+1)
  end
end"""

ENDLESS = """num n
main
  while yes
    tell n
    n = (n-1)
  end
end"""

SOURCES = [(PRIMES, []), (SUMS, [5, 40000, 40000, 0, 7]), (FAULTY, []), (ENDLESS, [])]
PRIMES_TOLD = [2, 3, 5, 7, 11, 13, 17, 19, 23, 29]
SUMS_TOLD = [5, 40005, 14469, 14469, 14476]


def tree_from(text):
    tree = tree_of(text_of_words(words_of_text(text))[0])
    looked(tree)
    return tree


def image_from(text):
    return image_of(tree_from(text))[0]


def towns(count):
    """Towns of the sources above and of drawn ones: texts, words given, quota and beats."""
    source = random.Random(97)
    found = [(SOURCES[:3], 30, 60000), (SOURCES, 7, 4000), (SOURCES[::-1], 1, 4000), (SOURCES[:1] * 3, 4095, 9000)]
    for _ in range(count):
        some = [(drawn_text(source), drawn_given(source)) for _ in range(source.randrange(1, 6))]
        found.append((some, source.choice([1, 9, 200]), source.choice([500, 6000])))
    return found


def run_of(some, quota, beats):
    images, given = [image_from(text) for text, _ in some], [words for _, words in some]
    return images, given, town(images, given, quota)[1], town_run(images, given, quota, beats)


def words_of(told, task):
    return [word for one, word in told if one == task]


def has_halted(trace):
    return beat_of(trace[-1][0], trace[-1][1])[0][14] == 1


class WholeTest(unittest.TestCase):
    def test_a_runs_of_the_machine_are_runs_of_the_gates(self):
        for state, word in drawn_cases(random.Random(98), 4):
            self.assertEqual(net_beats(NET, [state], [word]), [(asked(state),) + beat_of(state, word)])
        for some, quota, _ in towns(2):
            trace = run_of(some, quota, 900)[3][3]
            self.assertTrue(as_gates(NET, trace))
            for first in range(0, len(trace), 256):
                states, words = zip(*trace[first:first + 256])
                wanted = [(asked(state),) + beat_of(state, word) for state, word in zip(states, words)]
                self.assertEqual(net_beats(NET, list(states), list(words)), wanted)
        for text, given in SOURCES:
            self.assertTrue(all(as_gates(NET, trace) for trace in lone(image_from(text), given, 600)[3]))

    def test_b_an_image_tells_what_its_program_means(self):
        self.assertEqual(lone(image_from(PRIMES), [], 20000)[:2], (PRIMES_TOLD, "ended"))
        self.assertEqual(lone(image_from(SUMS), SOURCES[1][1], 20000)[:2], (SUMS_TOLD, "ended"))
        self.assertEqual(lone(image_from(FAULTY), [], 20000)[:2], ([65535, 0, 1], "fault"))
        for some, _, beats in towns(40):
            for text, given in some:
                tree = tree_from(text)
                self.assertTrue(walked(tree, given, min(beats, 20000)))
                image, (begins, cells) = image_of(tree)
                told, end, memory, _ = lone(image, given, 20000)
                if end == "going":
                    continue
                values = {name: [memory.get(cells[name] + k, 0) for k in range(size)] if kind == "list" else
                          memory.get(cells[name], 0) for kind, name, size in tree[0]}
                self.assertEqual((told, end, values), meant(tree, given, 20000)[:3])

    def test_c_a_task_tells_a_beginning_of_what_its_image_tells_alone(self):
        halts = 0
        for some, quota, beats in towns(25):
            images, given, _, (told, ends, _, trace) = run_of(some, quota, beats)
            halts += has_halted(trace)
            for task, image in enumerate(images):
                alone = lone(image, given[task], beats)
                words = words_of(told, task)
                self.assertEqual(alone[0][:len(words)], words)
                if has_halted(trace):
                    self.assertEqual((words, ends[task]), alone[:2])
        self.assertGreater(halts, 8)

    def test_d_no_task_reaches_a_word_outside_of_its_stretch(self):
        for some, quota, beats in towns(15):
            images, given, stretches, (_, _, memory, trace) = run_of(some, quota, beats)
            within = {begin + k: (begin, length) for begin, length in stretches for k in range(length)}
            for state, word in trace:
                write = beat_of(state, word)[1]
                if write is not None:
                    self.assertEqual(within.get(asked(state)), (state[6], state[7]) if state[5] else None)
                elif state[5] == 1 and within.get(asked(state)) != (state[6], state[7]):
                    self.assertEqual(beat_of(state, word), beat_of(state, word ^ 65535))
            if has_halted(trace):
                for task, (begin, length) in enumerate(stretches):
                    alone = lone(images[task], given[task], 60000)[2]
                    self.assertEqual([memory.get(begin + k, 0) for k in range(length)],
                                     [alone.get(k, 0) for k in range(length)])

    def test_e_the_shell_shows_what_the_sources_tell(self):
        ends = {}
        for some, quota, beats in towns(30):
            rows = []
            for place, (text, given) in enumerate(some):
                name = "abcdefgh"[place]
                rows += ["keep p" + name, text, ".", "words w" + name + "".join(" " + str(word) for word in given)]
            rows += ["run " + " ".join("p" + name + "<w" + name for name in "abcdefgh"[:len(some)])]
            shown = [row.split(" ") for row in shell("\n".join(rows), 256, quota, beats).split("\n")]
            self.assertEqual(shown[:2 * len(some)], [["kept"]] * (2 * len(some)))
            shown = shown[2 * len(some):]
            for task, (text, given) in enumerate(some, start=1):
                words = [int(row[1]) for row in shown[:-len(some)] if row[0] == str(task)]
                self.assertEqual(shown[task - 1 - len(some)][0], str(task))
                end = shown[task - 1 - len(some)][1]
                meaning = meant(tree_from(text), given, 2500)
                self.assertEqual(meaning[0][:len(words)], words)
                if end != "going":
                    self.assertEqual((words, end), meaning[:2])
                ends[end] = ends.get(end, 0) + 1
        self.assertEqual(sorted(ends), ["ended", "fault", "going"])


if __name__ == "__main__":
    unittest.main()
