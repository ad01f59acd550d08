"""Backline: hands that fall, and the line to which all go back."""
