"""How wide a question is: trees of bags, and escapes."""
