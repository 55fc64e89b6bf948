package eslib

import (
	"math"

	"pennant/api"
	"pennant/esnum"
	"pennant/utf"
)

func (c *call) parseInt() api.Value {
	w := c.text(0)
	base := c.whole(1)
	if base != 0 && base != 10 && base != 16 {
		return number(math.NaN())
	}
	return number(integer(w, int(base)))
}

// integer is the number that a text begins with, by digits of that base (0: as the text says).
func integer(w string, base int) float64 {
	i := 0
	for isBlank(unitAt(w, i)) {
		i++
	}
	negative := unitAt(w, i) == '-'
	if negative || unitAt(w, i) == '+' {
		i++
	}
	if base != 10 && unitAt(w, i) == '0' && (unitAt(w, i+1) == 'x' || unitAt(w, i+1) == 'X') {
		i += 2
		base = 16
	}
	x := unsigned(w, i, base)
	if negative {
		return -x
	}
	return x
}

// unsigned is the number of the digits that stand from i on; NaN without any.
func unsigned(w string, from, base int) float64 {
	most, ahead := 10, ""
	if base == 16 {
		most, ahead = 16, wide("0x")
	}
	to := from
	for isDigit(unitAt(w, to), most) {
		to++
	}
	if to == from {
		return math.NaN()
	}
	return esnum.Number(ahead + utf.Cut(w, from, to))
}

// end is told where a text has no unit any more.
const end = -1

func unitAt(w string, i int) int {
	u, ok := utf.At(w, i)
	if !ok {
		return end
	}
	return u
}

// isBlank says what layer 4 leaves away at a text's ends.
func isBlank(u int) bool {
	switch u {
	case 9, 10, 11, 12, 13, 32, 0xA0, 0xFEFF:
		return true
	}
	return false
}

func isDigit(u, base int) bool {
	d := digit(u)
	return d >= 0 && d < base
}

// digit is what a digit of sixteen says, or -1 of another unit.
func digit(u int) int {
	switch {
	case u >= '0' && u <= '9':
		return u - '0'
	case u >= 'a' && u <= 'f':
		return u - 'a' + 10
	case u >= 'A' && u <= 'F':
		return u - 'A' + 10
	}
	return -1
}
