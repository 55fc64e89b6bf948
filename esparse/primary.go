package esparse

import (
	"pennant/api"
	"pennant/esnum"
	"pennant/utf"
)

func (p *parser) primary() int {
	x := p.here()
	switch x.Kind {
	case api.LexNum:
		return p.leaf(api.Ex{Kind: api.ExNum, Num: x.Num})
	case api.LexText:
		return p.leaf(api.Ex{Kind: api.ExText, Op: x.Text})
	case api.LexName:
		return p.leaf(api.Ex{Kind: api.ExName, Op: x.Text})
	}
	switch op := fixed(x); op {
	case "true", "false", "null":
		return p.leaf(api.Ex{Kind: api.ExConst, Op: op})
	case "(":
		return p.parenthesis()
	case "[":
		return p.array()
	case "{":
		return p.object()
	case "function":
		return p.function(api.ExFunc)
	}
	panic(p.misplaced())
}

// leaf lays down a node that is the next lexeme.
func (p *parser) leaf(x api.Ex) int {
	x.At = p.take().At
	return p.add(x)
}

// parenthesis tells what stands in it: there is no node of its own.
func (p *parser) parenthesis() int {
	p.want("(")
	n := p.assignment()
	p.want(")")
	return n
}

func (p *parser) array() int {
	x := api.Ex{Kind: api.ExArray, At: p.want("[").At}
	var kids []int
	for more := true; more && !p.sees("]"); more = p.takes(",") {
		kid := p.assignment()
		kids = append(kids, kid)
	}
	p.want("]")
	return p.add(x, kids...)
}

func (p *parser) object() int {
	x := api.Ex{Kind: api.ExObject, At: p.want("{").At}
	var kids []int
	for more := true; more && !p.sees("}"); more = p.takes(",") {
		key := p.key()
		p.want(":")
		value := p.assignment()
		kids = append(kids, key, value)
	}
	p.want("}")
	return p.add(x, kids...)
}

func (p *parser) key() int {
	x := p.wantKind(api.LexName, api.LexWord, api.LexText, api.LexNum)
	units := x.Text
	switch x.Kind {
	case api.LexName, api.LexWord:
		units = wide(x.Text)
	case api.LexNum:
		units = wide(esnum.Text(x.Num))
	}
	return p.add(api.Ex{Kind: api.ExText, Op: units, At: x.At})
}

// wide is the wide text of plain characters.
func wide(s string) string {
	w, _, _ := utf.Wide(s)
	return w
}

// function reads one of either kind. Only that of an expression may lack a name.
func (p *parser) function(kind int) int {
	x := api.Ex{Kind: kind, At: p.want("function").At}
	if kind == api.StFunc || !p.sees("(") {
		x.Op = p.wantKind(api.LexName).Text
	}
	p.want("(")
	kids := p.listed(")", p.parameter)
	p.want(")")
	body := p.block(setting{itself: true, function: true})
	kids = append(kids, body)
	return p.add(x, kids...)
}

func (p *parser) parameter() int {
	x := p.wantKind(api.LexName)
	return p.add(api.Ex{Kind: api.ExName, Op: x.Text, At: x.At})
}
