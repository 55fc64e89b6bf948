package esparse

import (
	"slices"

	"pennant/api"
)

// A parser has what is left of a script's lexemes, and the nodes that have ended, in the order in which they did.
type parser struct {
	list  []api.Lexeme
	size  int // the script's bytes
	nodes []api.Ex
}

// A fault is what gives up a script, however deep its parser is.
type fault struct {
	at int
	e  api.Errno
}

// ahead is the lexeme n places further on; behind the last one it is of no kind, at the script's end.
func (p *parser) ahead(n int) api.Lexeme {
	if n >= len(p.list) {
		return api.Lexeme{At: p.size}
	}
	return p.list[n]
}

func (p *parser) here() api.Lexeme { return p.ahead(0) }

func (p *parser) atEnd() bool { return len(p.list) == 0 }

// misplaced is the fault of the next lexeme, or of the end, where it can't stand.
func (p *parser) misplaced() fault { return fault{p.here().At, api.ErrSyntax} }

// fixed is a word or a mark. Of other lexemes it is nothing: the bytes of a wide text may be those of a mark.
func fixed(x api.Lexeme) string {
	if x.Kind == api.LexWord || x.Kind == api.LexMark {
		return x.Text
	}
	return ""
}

func (p *parser) sees(text string) bool { return fixed(p.here()) == text }

// take goes on behind the next lexeme, which there is.
func (p *parser) take() api.Lexeme {
	x := p.here()
	p.list = p.list[1:]
	return x
}

// takes takes a word or a mark, if it stands here.
func (p *parser) takes(text string) bool {
	if !p.sees(text) {
		return false
	}
	p.take()
	return true
}

// want takes a word or a mark that has to stand here.
func (p *parser) want(text string) api.Lexeme {
	if !p.sees(text) {
		panic(p.misplaced())
	}
	return p.take()
}

// wantKind takes a lexeme that has to be of one of these kinds.
func (p *parser) wantKind(kinds ...int) api.Lexeme {
	if !slices.Contains(kinds, p.here().Kind) {
		panic(p.misplaced())
	}
	return p.take()
}

// add lays down a node behind its kids, and tells its number.
func (p *parser) add(x api.Ex, kids ...int) int {
	x.Kids = kids
	p.nodes = append(p.nodes, x)
	return len(p.nodes) - 1
}

// addBehind lays down a node that begins where its first kid does.
func (p *parser) addBehind(x api.Ex, first int, others ...int) int {
	x.At = p.nodes[first].At
	kids := append([]int{first}, others...)
	return p.add(x, kids...)
}

// mustBe is for operands that are of certain kinds alone.
func (p *parser) mustBe(n int, kinds ...int) {
	x := p.nodes[n]
	if !slices.Contains(kinds, x.Kind) {
		panic(fault{x.At, api.ErrPlace})
	}
}

// listed reads parts with commas between them, as many as there are ahead of a mark.
func (p *parser) listed(end string, part func() int) []int {
	var kids []int
	for more := !p.sees(end); more; more = p.takes(",") {
		kid := part()
		kids = append(kids, kid)
	}
	return kids
}
