package eslib

// A placer turns a whole number into a place from 0 to length.
type placer func(x float64, length int) int

// within is the place nearest to x.
func within(x float64, length int) int {
	switch {
	case x < 0:
		return 0
	case x > float64(length):
		return length
	}
	return int(x)
}

// fromEnd is the place of a number that counts from the end on, where it is below 0.
func fromEnd(x float64, length int) int {
	if x < 0 {
		x += float64(length)
	}
	return within(x, length)
}

// places are those that the first two arguments tell; where the second lacks, it is the end.
func (c *call) places(place placer, length int) (int, int) {
	from := place(c.whole(0), length)
	if c.lacks(1) {
		return from, length
	}
	return from, place(c.whole(1), length)
}
