"""What is taken off a text on its way in."""
