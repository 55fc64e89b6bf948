package esparse

import "pennant/api"

// A setting is what a statement stands in, within the same function.
type setting struct {
	itself   bool // no other statement is between it and the program, or the function's body
	function bool
	loop     bool
	cases    bool
}

func (s setting) inPart() setting {
	s.itself = false
	return s
}

func (s setting) inLoop() setting {
	s.itself, s.loop = false, true
	return s
}

func (s setting) inCases() setting {
	s.itself, s.cases = false, true
	return s
}

// allows says whether a statement may begin with a word, where that hangs on the setting.
func (s setting) allows(word string) bool {
	switch word {
	case "return":
		return s.function
	case "break":
		return s.loop || s.cases
	case "continue":
		return s.loop
	case "function":
		return s.itself
	}
	return true
}

func (p *parser) program() int {
	var kids []int
	for !p.atEnd() {
		kid := p.statement(setting{itself: true})
		kids = append(kids, kid)
	}
	return p.add(api.Ex{Kind: api.StProgram}, kids...)
}

func (p *parser) statement(in setting) int {
	first := fixed(p.here())
	if !in.allows(first) {
		panic(p.misplaced())
	}
	switch first {
	case "{":
		return p.block(in.inPart())
	case ";":
		return p.leaf(api.Ex{Kind: api.StEmpty})
	case "if":
		return p.ifStatement(in.inPart())
	case "while":
		return p.whileStatement(in.inLoop())
	case "for":
		return p.forStatement(in.inLoop())
	case "try":
		return p.tryStatement(in.inPart())
	case "switch":
		return p.switchStatement(in.inCases())
	case "function":
		return p.function(api.StFunc)
	}
	n := p.simple()
	p.end()
	return n
}

// end takes the ; of a statement, which may be left out.
func (p *parser) end() {
	if !p.mayEnd() {
		panic(p.misplaced())
	}
	p.takes(";")
}

func (p *parser) mayEnd() bool {
	return p.sees(";") || p.sees("}") || p.atEnd() || p.here().Line
}

// simple reads a statement that a ; ends, up to that.
func (p *parser) simple() int {
	switch fixed(p.here()) {
	case "var":
		return p.variables()
	case "return":
		return p.returning()
	case "break":
		return p.leaf(api.Ex{Kind: api.StBreak})
	case "continue":
		return p.leaf(api.Ex{Kind: api.StContinue})
	case "throw":
		return p.throwing()
	}
	return p.expression()
}

func (p *parser) variables() int {
	x := api.Ex{Kind: api.StVar, At: p.want("var").At}
	var kids []int
	for more := true; more; more = p.takes(",") {
		kid := p.variable()
		kids = append(kids, kid)
	}
	return p.add(x, kids...)
}

func (p *parser) variable() int {
	name := p.wantKind(api.LexName)
	x := api.Ex{Kind: api.StDecl, Op: name.Text, At: name.At}
	if !p.takes("=") {
		return p.add(x)
	}
	value := p.assignment()
	return p.add(x, value)
}

func (p *parser) returning() int {
	x := api.Ex{Kind: api.StReturn, At: p.want("return").At}
	if p.mayEnd() {
		return p.add(x)
	}
	value := p.assignment()
	return p.add(x, value)
}

func (p *parser) throwing() int {
	x := api.Ex{Kind: api.StThrow, At: p.want("throw").At}
	if p.here().Line {
		panic(p.misplaced())
	}
	value := p.assignment()
	return p.add(x, value)
}

func (p *parser) expression() int {
	x := api.Ex{Kind: api.StExpr, At: p.here().At}
	kid := p.assignment()
	return p.add(x, kid)
}
