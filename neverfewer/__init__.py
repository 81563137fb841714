"""Charts on a ball, cords over and under, and which of them are one."""
