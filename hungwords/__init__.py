"""Hungwords: words of a row hung on one another."""
