"""All closed TERMs of few signs."""

from ringproofs.termtexts import term_text


def _of_size(signs, ahead):
    """The closed TERMs of so many signs; ahead has those of fewer, by how many they have."""
    if signs == 1:
        return [("0",)]
    found = [("s", tree) for tree in ahead[signs - 1]]
    for few in range(1, signs - 1):
        found.extend([("f", left, right) for left in ahead[few] for right in ahead[signs - 1 - few]])
    return found


def trees(most):
    """The list of all closed TERMs of at most so many signs, those of fewer first, of as many by their texts."""
    by_size = [[]]
    for signs in range(1, most + 1):
        by_size.append(sorted(_of_size(signs, by_size), key=term_text))
    return [tree for row in by_size for tree in row]
