"""Papersorliars: a paper or a liar for every book of wishes."""
