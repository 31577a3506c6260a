"""Claims about made things: what they cover and how they stand to one another."""
