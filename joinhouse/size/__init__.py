"""How many answers a question can have."""
