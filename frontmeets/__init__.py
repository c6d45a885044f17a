"""Lines of people that meet where the shorter or the taller front goes first."""
