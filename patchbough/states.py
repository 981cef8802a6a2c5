"""States: what stands behind some rows of a patch, as asks and makes tell it. Nothing is kept here yet."""
