"""Ages in words: what screens that say "3 m ago" tell of when something happened."""
