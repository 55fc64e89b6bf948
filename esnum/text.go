package esnum

import (
	"math"
	"strconv"
	"strings"
)

// The words of the numbers that have no digits.
const (
	none    = "NaN"
	endless = "Infinity"
)

// The places of the point between which a number is written without e.
const (
	leastPlace = -5
	mostPlace  = 21
)

// Text is a number's text.
func Text(x float64) string {
	if math.IsNaN(x) {
		return none
	}
	// A nought is not below 0: -0 has no sign either.
	if x < 0 {
		return "-" + magnitude(-x)
	}
	return magnitude(x)
}

// magnitude is the text of what isn't below 0.
func magnitude(x float64) string {
	if x == 0 {
		return "0"
	}
	if math.IsInf(x, 1) {
		return endless
	}
	return laid(shortest(x))
}

// shortest is the fewest digits that say x, and the place of the point, counted from ahead of the first digit.
func shortest(x float64) (string, int) {
	front, back, _ := strings.Cut(strconv.FormatFloat(x, 'e', -1, 64), "e")
	power, _ := strconv.Atoi(back)
	return strings.Replace(front, ".", "", 1), power + 1
}

// laid is digits with a point at that place.
func laid(digits string, place int) string {
	switch {
	case place < leastPlace || place > mostPlace:
		return powered(digits, place-1)
	case place <= 0:
		return "0." + strings.Repeat("0", -place) + digits
	case place < len(digits):
		return digits[:place] + "." + digits[place:]
	}
	return digits + strings.Repeat("0", place-len(digits))
}

// powered is digits with a point behind the first one, times 10 to the power.
func powered(digits string, power int) string {
	out := digits[:1]
	if len(digits) > 1 {
		out += "." + digits[1:]
	}
	if power < 0 {
		return out + "e-" + strconv.Itoa(-power)
	}
	return out + "e+" + strconv.Itoa(power)
}
