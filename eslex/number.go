package eslex

import (
	"pennant/api"
	"pennant/esnum"
	"pennant/utf"
)

// number is the one that rest begins with: a digit, or a point and a digit.
func number(rest string) (api.Lexeme, int) {
	size := numberSize(rest)
	// What has begun a number and can't go on as one stands behind it here: the x of 0x, an e, or a digit behind a 0.
	if goesOnName(byteAt(rest, size)) {
		return api.Lexeme{}, 0
	}
	w, _, _ := utf.Wide(rest[:size])
	return api.Lexeme{Kind: api.LexNum, Num: esnum.Number(w)}, size
}

// numberSize is how many bytes of rest are a number.
func numberSize(rest string) int {
	if size := sixteensSize(rest); size > 0 {
		return size
	}
	size := wholeSize(rest)
	if byteAt(rest, size) == '.' {
		size = past(rest, size+1, isDigit)
	}
	return size + powerSize(rest[size:])
}

// sixteensSize is how many bytes 0x and the digits of sixteen have that rest begins with, or 0.
func sixteensSize(rest string) int {
	const begin = 2
	x := byteAt(rest, 1)
	if rest[0] != '0' || x != 'x' && x != 'X' {
		return 0
	}
	size := past(rest, begin, isSixteenth)
	if size == begin {
		return 0
	}
	return size
}

// wholeSize is how many digits stand ahead of the point: behind a 0 no more.
func wholeSize(rest string) int {
	if rest[0] == '0' {
		return 1
	}
	return past(rest, 0, isDigit)
}

// powerSize is how many bytes e, sign and digits have that rest begins with; without a digit they are none.
func powerSize(rest string) int {
	if e := byteAt(rest, 0); e != 'e' && e != 'E' {
		return 0
	}
	digits := 1
	if sign := byteAt(rest, 1); sign == '+' || sign == '-' {
		digits = 2
	}
	size := past(rest, digits, isDigit)
	if size == digits {
		return 0
	}
	return size
}
