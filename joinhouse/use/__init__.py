"""A bench on which a question and a store are worked on."""
