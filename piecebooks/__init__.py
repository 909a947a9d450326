"""Pieces of text led to words of one length."""
