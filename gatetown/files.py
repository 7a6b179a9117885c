"""A floor of files."""

from gatetown.errors import NoFile, NoRoom

BLOCK = 16


def blocks_for(words):
    return (len(words) + BLOCK - 1) // BLOCK


class Floor:
    def __init__(self, blocks):
        self.contents = [[0] * BLOCK for number in range(blocks)]
        # From names to the blocks of each file, and to the count of its words.
        self.owned = {}
        self.lengths = {}

    def look_for(self, name):
        if name not in self.owned:
            raise NoFile()

    def free_blocks(self):
        taken = {}
        for blocks in self.owned.values():
            for number in blocks:
                taken[number] = True
        return [number for number in range(len(self.contents)) if number not in taken]

    def keep(self, name, words):
        needed = blocks_for(words)
        if needed > self.free() + len(self.owned.get(name, [])):
            raise NoRoom()
        if name in self.owned:
            self.drop(name)
        blocks = self.free_blocks()[:needed]
        for place, number in enumerate(blocks):
            some = words[place * BLOCK:place * BLOCK + BLOCK]
            self.contents[number] = list(some) + [0] * (BLOCK - len(some))
        self.owned[name] = blocks
        self.lengths[name] = len(words)

    def drop(self, name):
        self.look_for(name)
        blocks = self.owned.pop(name)
        for number in blocks:
            self.contents[number] = [0] * BLOCK
        self.lengths.pop(name)

    def words_of(self, name):
        self.look_for(name)
        words = []
        for number in self.owned[name]:
            words.extend(self.contents[number])
        return words[:self.lengths[name]]

    def names(self):
        return sorted(self.owned)

    def free(self):
        return len(self.free_blocks())

    def blocks_of(self, name):
        self.look_for(name)
        return list(self.owned[name])

    def block(self, number):
        return list(self.contents[number])
