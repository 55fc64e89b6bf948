package esprint

import (
	"bytes"
	"slices"

	"pennant/api"
)

func (p *printer) statement(x api.Ex) {
	switch x.Kind {
	case api.StExpr:
		p.alone(x.Kids[0])
	case api.StVar:
		p.variables(x)
		p.put(";\n")
	case api.StDecl:
		p.put(x.Op)
		p.behind(" = ", x.Kids)
	case api.StBlock:
		p.inCurls(x.Kids)
	case api.StIf:
		p.headed("if ", x.Kids)
		if len(x.Kids) == 3 {
			p.put("else ")
			p.text(x.Kids[2])
		}
	case api.StWhile:
		p.headed("while ", x.Kids)
	case api.StFor:
		p.steps(x.Kids)
	case api.StForIn:
		p.keys(x)
	case api.StTry:
		p.try(x)
	case api.StSwitch:
		p.put("switch ")
		p.inParentheses(x.Kids[0])
		p.put(" ")
		p.inCurls(x.Kids[1:])
	case api.StCase:
		p.switchCase(x)
	case api.StFunc:
		p.function(x)
	case api.StProgram:
		p.each(x.Kids, "", p.text)
	default:
		p.leaving(x)
	}
}

// leaving writes a statement of one word or none, with an expression behind it or not.
func (p *printer) leaving(x api.Ex) {
	switch x.Kind {
	case api.StReturn:
		p.put("return")
	case api.StThrow:
		p.put("throw")
	case api.StBreak:
		p.put("break")
	case api.StContinue:
		p.put("continue")
	}
	p.behind(" ", x.Kids)
	p.put(";\n")
}

// behind writes the one part that may be there.
func (p *printer) behind(ahead string, kids []int) {
	for _, kid := range kids {
		p.put(ahead)
		p.text(kid)
	}
}

// alone writes an expression that is a statement, which may not begin as a block or a function does.
func (p *printer) alone(n int) {
	start := len(p.out)
	p.text(n)
	written := p.out[start:]
	if bytes.HasPrefix(written, []byte("{")) || bytes.HasPrefix(written, []byte("function")) {
		p.out = slices.Insert(p.out, start, '(')
		p.put(")")
	}
	p.put(";\n")
}

// variables writes an StVar up to its ;.
func (p *printer) variables(x api.Ex) {
	p.put("var ")
	p.each(x.Kids, ", ", p.text)
}

func (p *printer) inCurls(kids []int) {
	p.put("{\n")
	p.each(kids, "", p.text)
	p.put("}\n")
}

// headed writes a word, an expression in parentheses and a statement.
func (p *printer) headed(word string, kids []int) {
	p.put(word)
	p.inParentheses(kids[0])
	p.put(" ")
	p.text(kids[1])
}

// steps writes a for of three parts.
func (p *printer) steps(kids []int) {
	p.put("for (")
	p.firstStep(kids[0])
	p.put("; ")
	p.each(kids[1:3], "; ", p.step)
	p.put(") ")
	p.text(kids[3])
}

func (p *printer) firstStep(n int) {
	switch x := p.nodes[n]; x.Kind {
	case api.StVar:
		p.variables(x)
	case api.StExpr:
		// A name and in would begin a for of keys.
		p.inParentheses(x.Kids[0])
	default:
		p.step(n)
	}
}

func (p *printer) step(n int) {
	if p.nodes[n].Kind != api.StEmpty {
		p.text(n)
	}
}

// keys writes a for of an object's keys.
func (p *printer) keys(x api.Ex) {
	p.put("for (")
	if x.Num == 1 {
		p.put("var ")
	}
	p.put(x.Op, " in ")
	p.text(x.Kids[0])
	p.put(") ")
	p.text(x.Kids[1])
}

func (p *printer) try(x api.Ex) {
	p.put("try ")
	p.text(x.Kids[0])
	if x.Num != finally {
		p.put("catch (", x.Op, ") ")
		p.text(x.Kids[1])
	}
	if x.Num != caught {
		p.put("finally ")
		p.text(x.Kids[len(x.Kids)-1])
	}
}

func (p *printer) switchCase(x api.Ex) {
	list := x.Kids
	if x.Num == 1 {
		p.put("default")
	} else {
		p.put("case ")
		// A tree made by hand may have no kid here.
		value := min(1, len(list))
		p.each(list[:value], "", p.text)
		list = list[value:]
	}
	p.put(":\n")
	p.each(list, "", p.text)
}
