package esprint

import (
	"bytes"

	"pennant/api"
)

// A printer has a tree's nodes, and what is written of its text.
type printer struct {
	nodes []api.Ex
	out   []byte
	long  bool // something has been left out, as the text is too long whatever comes
}

// most is how many bytes are kept: what is written may still lose a byte, one a function.
const most = api.MaxSource + api.MaxAst

// put writes, as long as that is of use, so that no tree takes more room than that, however long its names are.
func (p *printer) put(parts ...string) {
	for _, s := range parts {
		if p.long || len(s) > most-len(p.out) {
			p.long = true
			return
		}
		p.out = append(p.out, s...)
	}
}

func (p *printer) isLong() bool { return p.long || len(p.out) > api.MaxSource }

// dropLineEnd takes back the line end that was written last.
func (p *printer) dropLineEnd() { p.out = bytes.TrimSuffix(p.out, []byte("\n")) }

// text writes a node's own text, wherever it stands.
func (p *printer) text(n int) {
	if x := p.nodes[n]; isExpression(x.Kind) {
		p.expression(x)
	} else {
		p.statement(x)
	}
}

// each writes nodes one behind the other, with something between them.
func (p *printer) each(nodes []int, between string, write func(n int)) {
	for i, n := range nodes {
		if i > 0 {
			p.put(between)
		}
		write(n)
	}
}

func (p *printer) inParentheses(n int) {
	p.put("(")
	p.text(n)
	p.put(")")
}
