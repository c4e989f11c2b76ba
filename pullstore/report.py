"""A table of what every replica reads."""

from pullstore.errors import InvalidData
from pullstore.logs import check_logs
from pullstore.readings import check_length, find_reading, known_keys

KEY_WIDTH = 8
VALUE_WIDTH = 6
MOST_VALUE = 9999


def report_text(cluster, logs, key_of, value_of):
    """The table: a line for each key, with the value that each replica reads."""
    held = check_logs(cluster, logs)
    check_data(cluster, key_of, value_of)
    lines = [report_line("key", list(range(cluster.net.count)))]
    for key in known_keys(key_of):
        lines.append(report_line(key, [reading_sign(log, key_of, value_of, key) for log in held]))
    return "\n".join(lines)


def report_line(key, signs):
    """A line of the table."""
    return key.ljust(KEY_WIDTH) + "".join([str(sign).rjust(VALUE_WIDTH) for sign in signs])


def reading_sign(log, key_of, value_of, key):
    """The value that is read from the log for the key, or a dash."""
    entry = find_reading(log, key_of, key)
    if entry is None:
        return "-"
    return value_of[entry]


def check_data(cluster, key_of, value_of):
    """Raises InvalidData if there is not one valid key and one valid value for each entry."""
    check_length(cluster, key_of)
    check_length(cluster, value_of)
    for entry in range(cluster.size):
        if not is_key(key_of[entry]) or not is_value(value_of[entry]):
            raise InvalidData(entry)


def is_key(key):
    """Whether the string is a valid key: 1 to 8 small letters."""
    return 1 <= len(key) <= KEY_WIDTH and all("a" <= sign <= "z" for sign in key)


def is_value(value):
    """Whether the integer is a valid value."""
    return -MOST_VALUE <= value <= MOST_VALUE
