"""What all else is built on: words, questions and stores."""
