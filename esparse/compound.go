package esparse

import "pennant/api"

func (p *parser) block(in setting) int {
	x := api.Ex{Kind: api.StBlock, At: p.want("{").At}
	var kids []int
	for !p.takes("}") {
		kid := p.statement(in)
		kids = append(kids, kid)
	}
	return p.add(x, kids...)
}

func (p *parser) ifStatement(in setting) int {
	x := api.Ex{Kind: api.StIf, At: p.want("if").At}
	cond := p.parenthesis()
	yes := p.statement(in)
	if !p.takes("else") {
		return p.add(x, cond, yes)
	}
	no := p.statement(in)
	return p.add(x, cond, yes, no)
}

func (p *parser) whileStatement(in setting) int {
	x := api.Ex{Kind: api.StWhile, At: p.want("while").At}
	cond := p.parenthesis()
	body := p.statement(in)
	return p.add(x, cond, body)
}

func (p *parser) forStatement(in setting) int {
	at := p.want("for").At
	p.want("(")
	if p.seesKeys() {
		return p.forKeys(at, in)
	}
	first := p.forFirst()
	p.want(";")
	cond := p.forPart(";")
	p.want(";")
	step := p.forPart(")")
	p.want(")")
	body := p.statement(in)
	return p.add(api.Ex{Kind: api.StFor, At: at}, first, cond, step, body)
}

// seesKeys tells by what stands behind the ( of a for whether it goes through keys.
func (p *parser) seesKeys() bool {
	name := 0
	if p.sees("var") {
		name = 1
	}
	return p.ahead(name).Kind == api.LexName && fixed(p.ahead(name+1)) == "in"
}

func (p *parser) forKeys(at int, in setting) int {
	x := api.Ex{Kind: api.StForIn, At: at}
	if p.takes("var") {
		x.Num = 1
	}
	x.Op = p.wantKind(api.LexName).Text
	p.want("in")
	object := p.assignment()
	p.want(")")
	body := p.statement(in)
	return p.add(x, object, body)
}

func (p *parser) forFirst() int {
	switch {
	case p.sees(";"):
		return p.nothing()
	case p.sees("var"):
		return p.variables()
	}
	return p.expression()
}

// forPart reads the expression that stands ahead of a mark, if one does.
func (p *parser) forPart(end string) int {
	if p.sees(end) {
		return p.nothing()
	}
	return p.assignment()
}

// nothing stands ahead of the mark that comes next.
func (p *parser) nothing() int {
	return p.add(api.Ex{Kind: api.StEmpty, At: p.here().At})
}

func (p *parser) tryStatement(in setting) int {
	const caught, last = 1, 2
	x := api.Ex{Kind: api.StTry, At: p.want("try").At}
	body := p.block(in)
	kids := []int{body}
	if p.takes("catch") {
		p.want("(")
		x.Op = p.wantKind(api.LexName).Text
		p.want(")")
		kid := p.block(in)
		kids = append(kids, kid)
		x.Num += caught
	}
	if p.takes("finally") {
		kid := p.block(in)
		kids = append(kids, kid)
		x.Num += last
	}
	if x.Num == 0 {
		panic(p.misplaced())
	}
	return p.add(x, kids...)
}

func (p *parser) switchStatement(in setting) int {
	x := api.Ex{Kind: api.StSwitch, At: p.want("switch").At}
	value := p.parenthesis()
	kids := []int{value}
	p.want("{")
	others := false
	for !p.takes("}") {
		if p.sees("default") && others {
			panic(p.misplaced())
		}
		others = others || p.sees("default")
		kid := p.switchCase(in)
		kids = append(kids, kid)
	}
	return p.add(x, kids...)
}

func (p *parser) switchCase(in setting) int {
	x := api.Ex{Kind: api.StCase, At: p.here().At}
	var kids []int
	if p.takes("default") {
		x.Num = 1
	} else {
		p.want("case")
		value := p.assignment()
		kids = append(kids, value)
	}
	p.want(":")
	for !p.sees("}") && !p.sees("case") && !p.sees("default") {
		kid := p.statement(in)
		kids = append(kids, kid)
	}
	return p.add(x, kids...)
}
