"""What is enough, and what is the most that can be let through."""
