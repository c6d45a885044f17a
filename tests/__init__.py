"""The tests of frontmeets."""
