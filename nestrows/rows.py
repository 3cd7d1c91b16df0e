"""What stands in the rows of flat code: the registers they look at, and their blocks.

A row is (word, place, register into which it comes, ..). Behind these stand, of
if: c's register, what is taken in, rows and told register of both blocks; of
each and where: the row's register, its depth, the item's register, what is taken
in, rows and told register of the body, the depth of what comes.
"""

ITEM_WORDS = ("each", "where")

# The words behind whose registers the depth of the first part stands.
WITH_DEPTH = ("pick", "put", "flat", "one")


def taken_by(row):
    """The registers that the blocks of a row take in."""
    if row[0] == "if":
        return row[4]
    if row[0] in ITEM_WORDS:
        return row[6]
    return ()


def blocks_of(row):
    """(rows, told register) of each block of a row."""
    if row[0] == "if":
        return [row[5:7], row[7:9]]
    if row[0] in ITEM_WORDS:
        return [row[7:9]]
    return []


def looks_at(row):
    """The registers at which a row looks, those that its blocks take in too."""
    word = row[0]
    if word == "num":
        return ()
    if word == "call":
        return row[4]
    if word == "if" or word in ITEM_WORDS:
        return row[3:4] + taken_by(row)
    if word in WITH_DEPTH:
        return row[3:-1]
    return row[3:]


def taken_in(blocks, first):
    """The registers made ahead of the first one of the blocks at which these look, or which they tell."""
    seen = []
    for rows, told in blocks:
        seen.append(told)
        for row in rows:
            seen.extend(looks_at(row))
    return tuple(sorted(set([at for at in seen if at < first])))


def all_rows(rows):
    """These rows and those of all blocks in them, a list."""
    found = []
    for row in rows:
        found.append(row)
        for inner, told in blocks_of(row):
            found.extend(all_rows(inner))
    return found
