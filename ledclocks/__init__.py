"""Ledclocks: clocks that drift, led by letters that take a while."""
