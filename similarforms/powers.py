"""Powers of whatever can be multiplied."""


def powered(base, k, one):
    """Return the product of `k` times `base`, for `k` from 0 on; `one` is the empty product."""
    result = one
    while k > 0:
        if k % 2 == 1:
            result = result * base
        k = k // 2
        # A square behind the last step would be the most expensive one, for nothing.
        if k > 0:
            base = base * base
    return result
