"""The shape of a question: join trees, knots, and the programs that come with them."""
