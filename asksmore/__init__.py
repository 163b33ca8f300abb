"""Asksmore: specifications that leave things open, and tests that ask more than they say."""
