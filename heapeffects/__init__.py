"""What a program of insertions and removals does to every heap."""
