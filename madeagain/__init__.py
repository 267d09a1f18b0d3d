"""Numbers made by recipes, and made again with the least redone."""
