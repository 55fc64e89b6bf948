package eslex

import (
	"strconv"
	"strings"

	"pennant/api"
	"pennant/utf"
)

// lettered are the letters that say, behind a \, the units from 8 on.
const (
	lettered      = "btnvfr"
	firstLettered = 8
)

// text is the one in marks that rest begins with.
func text(rest string) (api.Lexeme, int) {
	var w strings.Builder
	i := 1
	for byteAt(rest, i) != rest[0] {
		units, size := said(rest[i:])
		if size == 0 {
			return api.Lexeme{}, 0
		}
		w.WriteString(units)
		i += size
	}
	return api.Lexeme{Kind: api.LexText, Text: w.String()}, i + 1
}

// said is the wide text that the first character of a text's rest says, with what belongs to it, and how many bytes that are; 0 where it isn't right.
func said(rest string) (string, int) {
	c, size, ok := utf.Next(rest, 0)
	switch {
	case !ok || c == '\n' || c == '\r':
		return "", 0
	case c == '\\':
		units, more := escaped(rest[size:])
		if more == 0 {
			return "", 0
		}
		return units, size + more
	}
	return character(rest, size), size
}

// escaped is the same of what stands behind a \.
func escaped(rest string) (string, int) {
	c, size, ok := utf.Next(rest, 0)
	switch {
	case !ok:
		return "", 0
	case strings.HasPrefix(rest, "\r\n"):
		return "", 2
	case isLineEnd(c):
		return "", size
	case c == '0' && !isDigit(byteAt(rest, 1)):
		return unit(0), size
	case isDigit(rest[0]):
		return "", 0
	case c == 'x':
		return coded(rest, 2)
	case c == 'u':
		return coded(rest, 4)
	}
	if i := strings.IndexByte(lettered, rest[0]); i >= 0 {
		return unit(firstLettered + i), size
	}
	return character(rest, size), size
}

// coded is the unit of so many digits of sixteen that stand behind rest's first letter, and the bytes of all that.
func coded(rest string, digits int) (string, int) {
	end := 1 + digits
	if len(rest) < end {
		return "", 0
	}
	// No sign, no _ and no 0x is taken where the base is told.
	u, err := strconv.ParseUint(rest[1:end], 16, 16)
	if err != nil {
		return "", 0
	}
	return unit(int(u)), end
}

// unit is the wide text of one unit.
func unit(u int) string { return string([]byte{byte(u >> 8), byte(u)}) }

// character is the wide text of rest's first character, which has so many bytes, and is UTF-8.
func character(rest string, size int) string {
	w, _, _ := utf.Wide(rest[:size])
	return w
}
