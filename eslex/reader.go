package eslex

import (
	"strings"

	"pennant/api"
	"pennant/utf"
)

// A reader goes through a script. Where a part isn't right it stays at the place that is told of it.
type reader struct {
	src  string
	at   int
	line bool // a line end stands ahead of at, behind the last lexeme
	list []api.Lexeme
}

// gap goes on to where the next lexeme may begin, or to the script's end. It says false at a remark that isn't right; a character that is neither blank nor line end is the lexeme's.
func (r *reader) gap() bool {
	r.line = false
	for {
		rest := r.src[r.at:]
		c, size, ok := utf.Next(rest, 0)
		switch {
		case strings.HasPrefix(rest, "//"):
			ok = r.shortRemark()
		case strings.HasPrefix(rest, "/*"):
			ok = r.longRemark()
		case ok && (isBlank(c) || isLineEnd(c)):
			r.line = r.line || isLineEnd(c)
			r.at += size
		default:
			return true
		}
		if !ok {
			return false
		}
	}
}

// shortRemark goes on to the line end, which is no part of the remark.
func (r *reader) shortRemark() bool {
	for r.at < len(r.src) {
		c, size, ok := utf.Next(r.src, r.at)
		if !ok {
			return false
		}
		if isLineEnd(c) {
			return true
		}
		r.at += size
	}
	return true
}

func (r *reader) longRemark() bool {
	const begin, end = "/*", "*/"
	// The begin's * is not the end's one.
	inside := r.at + len(begin)
	size := strings.Index(r.src[inside:], end)
	if size < 0 {
		return false
	}
	// Whether a line ended is of use only where the remark is right.
	for i := inside; i < inside+size; {
		c, n, ok := utf.Next(r.src, i)
		if !ok {
			return false
		}
		r.line = r.line || isLineEnd(c)
		i += n
	}
	r.at = inside + size + len(end)
	return true
}

// lexeme takes the one that begins here, and says false where none does, or one that isn't right.
func (r *reader) lexeme() bool {
	x, size := first(r.src[r.at:])
	if size == 0 {
		return false
	}
	x.At, x.Line = r.at, r.line
	r.list = append(r.list, x)
	r.at += size
	return true
}

// first is the lexeme that rest, which isn't empty, begins with, and how many bytes it has; 0 where there is none.
func first(rest string) (api.Lexeme, int) {
	switch c := rest[0]; {
	case opensName(c):
		return name(rest)
	case c == '"' || c == '\'':
		return text(rest)
	case c == '.':
		if !isDigit(byteAt(rest, 1)) {
			return mark(rest)
		}
		// With a digit behind it a point begins a number, as a digit does.
		fallthrough
	case isDigit(c):
		return number(rest)
	}
	return mark(rest)
}

// name takes all that a name may have: the caller has seen that one begins.
func name(rest string) (api.Lexeme, int) {
	size := past(rest, 0, goesOnName)
	kind := api.LexName
	if Word(rest[:size]) {
		kind = api.LexWord
	}
	return api.Lexeme{Kind: kind, Text: rest[:size]}, size
}

// mark is the longest one that stands there.
func mark(rest string) (api.Lexeme, int) {
	longest := ""
	for _, m := range marks {
		if len(m) > len(longest) && strings.HasPrefix(rest, m) {
			longest = m
		}
	}
	if longest == "" {
		return api.Lexeme{}, 0
	}
	return api.Lexeme{Kind: api.LexMark, Text: longest}, len(longest)
}
