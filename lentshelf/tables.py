"""Tables of k values, and the polynomials of their entries' bits."""


def bits(k):
    """How many bits a value has."""
    return 1 if k == 2 else 2


def polynomials(n, k, table):
    """For each bit of the entries the polynomial by the bits of a, then of b: a tuple of (number, places)."""
    return tuple([polynomial(n, k, table, bit) for bit in range(bits(k))])


def polynomial(n, k, table, bit):
    """The terms of this bit's polynomial, ordered by places."""
    numbers = term_numbers(bit_row(k, table, bit))
    terms = [(places_of(chosen), number % n) for chosen, number in enumerate(numbers)]
    return tuple([(number, places) for places, number in sorted(terms) if number != 0])


def bit_row(k, table, bit):
    """This bit of the entry for each choice of places that are 1, as the number whose bits they are."""
    # For k 3 two bits have room for a value more than there are.
    room = 2 if bits(k) == 1 else 4
    row = []
    for b in range(room):
        for a in range(room):
            entry = table[a * k + b] if a < k and b < k else 0
            row.append((entry >> bit) & 1)
    return row


def term_numbers(row):
    """For each choice of places the number of its term, by what the polynomial is at each choice."""
    numbers = list(row)
    many = len(row)
    step = 1
    # Place by place: what is there with it, less what is there without it.
    while step < many:
        for chosen in range(many):
            if (chosen & step) > 0:
                numbers[chosen] -= numbers[chosen - step]
        step = step * 2
    return numbers


def places_of(chosen):
    """The rising tuple of the places of the bits that are 1."""
    return tuple([place for place in range(chosen.bit_length()) if (chosen >> place) & 1 == 1])
