package xmltok

import (
	"strconv"
	"strings"

	"pennant/api"
)

// plainText takes the text that stands ahead of the next <.
func (r *reader) plainText() {
	for r.rest != "" && !r.sees("<") {
		at := r.at
		text := ""
		if r.sees("&") {
			text = string(r.reference())
		} else {
			text = r.unreferred()
		}
		r.say(text, at)
	}
}

// unreferred takes text in which each character stands for itself.
func (r *reader) unreferred() string {
	n := r.before("<&")
	if wrong := strings.Index(r.rest[:n], "]]>"); wrong >= 0 {
		r.take(wrong)
		fail(api.ErrMarkup, r.at)
	}
	return r.take(n)
}

// say adds to the text that goes on till the next tag; a piece without characters doesn't begin it.
func (r *reader) say(text string, at api.Pos) {
	if r.text.Len() == 0 {
		r.textAt = at
	}
	r.text.WriteString(text)
}

func (r *reader) endText() {
	if r.text.Len() == 0 {
		return
	}
	r.list = append(r.list, api.Tok{Kind: api.TokText, Text: r.text.String(), At: r.textAt})
	r.text.Reset()
}

// reference takes a reference, and tells the character that it means.
func (r *reader) reference() rune {
	c, size := r.named()
	if size == 0 {
		c, size = numbered(r.rest)
	}
	if size == 0 {
		fail(api.ErrRef, r.at)
	}
	r.take(size)
	return c
}

// named looks for a name that stands here: none is the beginning of another one, so their order doesn't matter.
func (r *reader) named() (rune, int) {
	for name, c := range r.names {
		if r.sees(name) {
			return c, len(name)
		}
	}
	return 0, 0
}

// numbered reads a number's reference, and tells its bytes; 0 where there is none.
func numbered(text string) (rune, int) {
	first, base := len("&#"), 10
	if strings.HasPrefix(text, "&#x") {
		first, base = len("&#x"), 16
	}
	end := strings.IndexByte(text, ';')
	if !strings.HasPrefix(text, "&#") || end < first {
		return 0, 0
	}
	n, err := strconv.ParseUint(text[first:end], base, 31)
	if err != nil {
		return 0, 0
	}
	c := rune(n)
	if !allowed(c) && c != '\r' {
		return 0, 0
	}
	return c, end + len(";")
}
