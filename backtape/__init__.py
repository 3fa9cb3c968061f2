"""Backtape: runs kept on a tape, and gone back."""
