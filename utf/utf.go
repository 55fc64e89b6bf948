// Package utf is layer 1: UTF-8 and texts of 16-bit units. See shared/doc/01-utf.md.
package utf

import (
	"strings"
	"unicode/utf8"

	"pennant/api"
)

// The units of pairs, and the characters that need one.
const (
	firstHigh = 0xD800
	firstLow  = 0xDC00
	lastLow   = 0xDFFF
	firstPair = 0x10000
	lost      = 0xFFFD
)

// Next is the character at a byte.
func Next(b string, i int) (int, int, bool) {
	if i < 0 || i >= len(b) {
		return 0, 0, false
	}
	r, size := utf8.DecodeRuneInString(b[i:])
	// The character FFFD itself has three bytes: told of one byte, it means that none begins here.
	if r == utf8.RuneError && size == 1 {
		return 0, 0, false
	}
	return int(r), size, true
}

// Wide turns UTF-8 into a wide text.
func Wide(b string) (string, int, api.Errno) {
	var w strings.Builder
	for i := 0; i < len(b); {
		c, size, ok := Next(b, i)
		if !ok {
			return "", i, api.ErrUTF
		}
		writeCharacter(&w, rune(c))
		i += size
	}
	return w.String(), 0, api.OK
}

func writeCharacter(w *strings.Builder, r rune) {
	if r < firstPair {
		writeUnit(w, r)
		return
	}
	rest := r - firstPair
	writeUnit(w, firstHigh+rest>>10)
	writeUnit(w, firstLow+rest&0x3FF)
}

func writeUnit(w *strings.Builder, u rune) {
	w.WriteByte(byte(u >> 8))
	w.WriteByte(byte(u))
}

// Narrow turns a wide text into UTF-8.
func Narrow(w string) (string, api.Errno) {
	if len(w)%2 != 0 {
		return "", api.ErrWide
	}
	var b strings.Builder
	for i := 0; i < Length(w); {
		r, units := character(w, i)
		b.WriteRune(r)
		i += units
	}
	return b.String(), api.OK
}

// character is the one that begins at unit i, which there is, and how many units it has.
func character(w string, i int) (rune, int) {
	u := unit(w, i)
	if u < firstHigh || u > lastLow {
		return rune(u), 1
	}
	if u < firstLow && i+1 < Length(w) {
		v := unit(w, i+1)
		if v >= firstLow && v <= lastLow {
			return rune(firstPair + (u-firstHigh)<<10 + (v - firstLow)), 2
		}
	}
	return lost, 1
}
