"""A laboratory for the replacement policies of a small cache."""
