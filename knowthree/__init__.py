"""Knowthree: guests who know one another."""
