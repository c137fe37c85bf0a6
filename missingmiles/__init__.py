"""Scripts on distances that nobody has measured."""
