"""Texts of questions, stores and papers, and a shell."""
