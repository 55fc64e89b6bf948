package xmltok

import (
	"strings"

	"pennant/api"
	"pennant/utf"
)

// characters are the document's, in UTF-8, each line's end as one character 10. They are looked at as a whole, as a wrong one comes ahead of all other faults.
func characters(doc string) string {
	var b strings.Builder
	at := api.Pos{Line: 1, Col: 1}
	for i := 0; i < len(doc); {
		text, size := character(doc, i, at)
		b.WriteString(text)
		at = behind(at, text)
		i += size
	}
	return b.String()
}

// character is the one at byte i of the document, and how many bytes it has there.
func character(doc string, i int, at api.Pos) (string, int) {
	if strings.HasPrefix(doc[i:], "\r\n") {
		return "\n", 2
	}
	if doc[i] == '\r' {
		return "\n", 1
	}
	c, size, ok := utf.Next(doc, i)
	if !ok {
		fail(api.ErrUTF, at)
	}
	if !allowed(rune(c)) {
		fail(api.ErrChar, at)
	}
	return doc[i : i+size], size
}

// behind is the place behind a text that begins at a place.
func behind(at api.Pos, text string) api.Pos {
	for i := 0; i < len(text); i++ {
		switch {
		case text[i] == '\n':
			at.Line++
			at.Col = 1
		case beginsCharacter(text[i]):
			at.Col++
		}
	}
	return at
}

// beginsCharacter parts a character's first byte from those that go on in it.
func beginsCharacter(b byte) bool { return b&0xC0 != 0x80 }

func allowed(c rune) bool {
	switch {
	case c < 0x20:
		return c == '\t' || c == '\n'
	case c > 0xFFFF:
		return c <= 0x10FFFF
	}
	return c < 0xD800 || c > 0xDFFF && c < 0xFFFE
}

func isBlank(c rune) bool { return c == ' ' || c == '\t' || c == '\n' }

// opensName is told by a character's first byte: all above 7F may begin a name.
func opensName(b byte) bool {
	return b >= 'a' && b <= 'z' || b >= 'A' && b <= 'Z' || b == '_' || b == ':' || b > 0x7F
}

// goesOnName is told by any byte of a character.
func goesOnName(b byte) bool {
	return opensName(b) || b >= '0' && b <= '9' || b == '-' || b == '.'
}
