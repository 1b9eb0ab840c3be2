"""Comparing two wishes by walking through the pairs of their states."""

from noteless.errors import LettersDiffer


def refuse_other_letters(left, right):
    """Raise LettersDiffer unless both wishes have the same letters."""
    if left.letters != right.letters:
        raise LettersDiffer(f"letters {left.letters} and {right.letters}")


def parting(left, right):
    """None, or a lasso that is good for `left` and bad for `right`."""
    refuse_other_letters(left, right)
    return parting_from(left, right, (left.start, right.start))


def parting_from(left, right, start):
    """None, or a lasso that is good for `left` and bad for `right` if they are read from the pair `start`."""
    stems = words_from(left, right, start, False)
    for pair, stem in stems.items():
        loop = winning_loop(left, right, pair)
        if loop is not None:
            return stem, loop
    return None


def same(left, right):
    """Tell whether the same runs are good for both wishes."""
    return parting(left, right) is None and parting(right, left) is None


def winning_loop(left, right, pair):
    """A word from the pair back to it, at whose first letter `left` takes a mark and in which `right` takes none."""
    for letter in left.letters:
        if left.marked(pair[0], letter) and not right.marked(pair[1], letter):
            after = (left[pair[0], letter], right[pair[1], letter])
            back = words_from(left, right, after, True).get(pair)
            if back is not None:
                return letter + back
    return None


def words_from(left, right, start, quiet):
    """For each pair that can be reached from the pair `start` a shortest word; if quiet, `right` takes no mark."""
    words = {start: ""}
    queue = [start]
    at = 0
    while at < len(queue):
        pair = queue[at]
        at += 1
        for letter in left.letters:
            if quiet and right.marked(pair[1], letter):
                continue
            after = (left[pair[0], letter], right[pair[1], letter])
            if after not in words:
                words[after] = words[pair] + letter
                queue.append(after)
    return words
