package esparse

import (
	"slices"

	"pennant/api"
)

// levels are the operators between two operands, the looser ones first.
var levels = [...][]string{
	{"||"},
	{"&&"},
	{"|"},
	{"^"},
	{"&"},
	{"==", "!=", "===", "!=="},
	{"<", ">", "<=", ">=", "in"},
	{"<<", ">>", ">>>"},
	{"+", "-"},
	{"*", "/", "%"},
}

// logic is how many of the levels, from the first on, may leave out their second operand.
const logic = 2

func (p *parser) assignment() int {
	left := p.choice()
	switch op := fixed(p.here()); op {
	case "=", "+=", "-=", "*=", "/=", "%=":
		p.take()
		p.mustBePlace(left)
		right := p.assignment()
		return p.addBehind(api.Ex{Kind: api.ExAssign, Op: op}, left, right)
	}
	return left
}

// mustBePlace is for operands that are written.
func (p *parser) mustBePlace(n int) { p.mustBe(n, api.ExName, api.ExMember, api.ExIndex) }

func (p *parser) choice() int {
	cond := p.binary(0)
	if !p.takes("?") {
		return cond
	}
	yes := p.assignment()
	p.want(":")
	no := p.assignment()
	return p.addBehind(api.Ex{Kind: api.ExCond}, cond, yes, no)
}

// binary reads what stands on one of the levels, or on a tighter one.
func (p *parser) binary(level int) int {
	if level == len(levels) {
		return p.unary()
	}
	kind := api.ExBinary
	if level < logic {
		kind = api.ExLogic
	}
	left := p.binary(level + 1)
	for slices.Contains(levels[level], fixed(p.here())) {
		op := p.take().Text
		right := p.binary(level + 1)
		left = p.addBehind(api.Ex{Kind: kind, Op: op}, left, right)
	}
	return left
}

func (p *parser) unary() int {
	x := api.Ex{Op: fixed(p.here()), At: p.here().At}
	switch x.Op {
	case "-", "+", "!", "~", "typeof", "delete":
		x.Kind = api.ExUnary
	case "++", "--":
		x.Kind, x.Num = api.ExUpdate, 1
	default:
		return p.updated()
	}
	p.take()
	kid := p.unary()
	switch x.Op {
	case "++", "--":
		p.mustBePlace(kid)
	case "delete":
		p.mustBe(kid, api.ExMember, api.ExIndex)
	}
	return p.add(x, kid)
}

// updated reads a postfix, with ++ or -- behind it, or neither.
func (p *parser) updated() int {
	n := p.postfix()
	x := p.here()
	op := fixed(x)
	if x.Line || op != "++" && op != "--" {
		return n
	}
	p.take()
	p.mustBePlace(n)
	return p.addBehind(api.Ex{Kind: api.ExUpdate, Op: op}, n)
}

func (p *parser) postfix() int {
	n := p.primary()
	for {
		switch {
		case p.takes("."):
			name := p.wantKind(api.LexName, api.LexWord).Text
			n = p.addBehind(api.Ex{Kind: api.ExMember, Op: name}, n)
		case p.takes("["):
			key := p.assignment()
			p.want("]")
			n = p.addBehind(api.Ex{Kind: api.ExIndex}, n, key)
		case p.takes("("):
			arguments := p.listed(")", p.assignment)
			p.want(")")
			n = p.addBehind(api.Ex{Kind: api.ExCall}, n, arguments...)
		default:
			return n
		}
	}
}
