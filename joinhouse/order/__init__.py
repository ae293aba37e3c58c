"""Orders of columns by which readings are told by their number."""
