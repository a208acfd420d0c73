"""Spoilorder: which check spoils which."""
