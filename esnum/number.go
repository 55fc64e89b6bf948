package esnum

import (
	"math"

	"pennant/utf"
)

// end is told where a text has no unit any more.
const end = -1

// A looker tells the unit at a place of what a text says (from 0 on), or end. What reads a number knows the text by it alone: the blanks at both ends aren't there for it.
type looker func(i int) int

// Number is the number that a wide text says.
func Number(w string) float64 {
	from, to := between(w)
	look := func(i int) int {
		u, ok := utf.At(w, from+i)
		if !ok || from+i >= to {
			return end
		}
		return u
	}
	return said(look)
}

// between is where the units between a text's blanks begin and end.
func between(w string) (int, int) {
	from, to := 0, utf.Length(w)
	for from < to && blankAt(w, from) {
		from++
	}
	for from < to && blankAt(w, to-1) {
		to--
	}
	return from, to
}

func blankAt(w string, i int) bool {
	u, _ := utf.At(w, i)
	switch u {
	case 9, 10, 11, 12, 13, 32, 0xA0, 0xFEFF:
		return true
	}
	return false
}

// said is the number that is looked at.
func said(look looker) float64 {
	if look(0) == end {
		return 0
	}
	negative, i := signAt(look, 0)
	x, ok := unsigned(look, i)
	switch {
	case !ok:
		return math.NaN()
	case negative:
		return -x
	}
	return x
}

// signAt says whether a - stands at i, and where what is behind the sign begins: at i, where there is none.
func signAt(look looker, i int) (bool, int) {
	switch look(i) {
	case '-':
		return true, i + 1
	case '+':
		return false, i + 1
	}
	return false, i
}

// unsigned is the number that what goes from i to the end says behind its sign, if it says one.
func unsigned(look looker, i int) (float64, bool) {
	switch {
	case isEndless(look, i):
		return math.Inf(1), true
	// Digits of sixteen have no sign ahead of them: they stand at the text's begin alone, wherever i is.
	case look(0) == '0' && (look(1) == 'x' || look(1) == 'X'):
		return sixteens(look, 2)
	}
	return decimal(look, i)
}

// isEndless says whether the word of the infinity stands from i to the end.
func isEndless(look looker, i int) bool {
	for k := range len(endless) {
		if look(i+k) != int(endless[k]) {
			return false
		}
	}
	return look(i+len(endless)) == end
}

// sixteens is the number of the digits of sixteen that stand from i to the end, if nothing else does.
func sixteens(look looker, i int) (float64, bool) {
	if look(i) == end {
		return 0, false
	}
	var top uint64
	rest := 0
	for ; look(i) != end; i++ {
		d := sixteenth(look(i))
		if d < 0 {
			return 0, false
		}
		top, rest = shifted(top, rest, uint64(d))
	}
	return math.Ldexp(float64(top), rest), true
}

// shifted puts a digit behind top, which has room for at least 61 bits from the first one on; of what finds no room there rest counts the bits. That any of them is set is kept in top's last bit: it stands so far behind the 53 that are left of top that it tells nothing but which side of a half the number is on.
func shifted(top uint64, rest int, d uint64) (uint64, int) {
	if top < 1<<60 {
		return top<<4 | d, rest
	}
	if d != 0 {
		top |= 1
	}
	return top, rest + 4
}

// sixteenth is what a digit of sixteen says, or -1 of another unit.
func sixteenth(u int) int {
	switch {
	case u >= '0' && u <= '9':
		return u - '0'
	case u >= 'a' && u <= 'f':
		return u - 'a' + 10
	case u >= 'A' && u <= 'F':
		return u - 'A' + 10
	}
	return -1
}
