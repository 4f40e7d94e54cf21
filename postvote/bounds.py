"""The limits of the package."""

# Of an instance: posts, groups, and the greatest capacity or count.
POSTS = 6
GROUPS = 10
BIG = 10 ** 12

# Of weights, and of vector prices.
HEAVY = 10 ** 9
LIMIT = 10 ** 12

# Of a listing: how many results it returns.
LISTED = 2000

# Of a bench: edits that stand, and edits of one run.
EDITS = 60
BATCH = 20
