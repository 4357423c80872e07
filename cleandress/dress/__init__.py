"""What is put into a text on its way out."""
