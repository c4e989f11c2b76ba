"""Disks: the frames of logs, and what is read from cells that may be cut off anywhere."""

FRAME = 3


def frames(log):
    """The cells of the frames of the log."""
    cells = []
    for index, entry in enumerate(log):
        cells.extend(frame_of(index, entry))
    return cells


def frame_of(index, entry):
    """The cells of the frame of the entry at this index of a log."""
    return [index, entry, -1 - entry]


def scan(cells):
    """The entries that are read, and the number of cells that they occupy."""
    entries = []
    start = 0
    while begins_frame(cells[start:start + FRAME], len(entries)):
        entries.append(cells[start + 1])
        start = start + FRAME
    return (entries, start)


def begins_frame(cells, index):
    """Whether these cells, which may be too few, are the frame of some entry at this index."""
    return len(cells) == FRAME and cells[1] >= 0 and cells == frame_of(index, cells[1])


def mend(cells):
    """The cells of the mended disk."""
    _, many = scan(cells)
    return cells[:many]
