package esprint

import (
	"strconv"

	"pennant/api"
	"pennant/esnum"
	"pennant/utf"
)

func (p *printer) expression(x api.Ex) {
	switch x.Kind {
	case api.ExNum:
		p.put(esnum.Text(x.Num))
	case api.ExText:
		p.quoted(x.Op)
	case api.ExName, api.ExConst:
		p.put(x.Op)
	case api.ExArray:
		p.put("[")
		p.each(x.Kids, ", ", p.text)
		p.put("]")
	case api.ExObject:
		p.put("{")
		p.pairs(x.Kids)
		p.put("}")
	case api.ExFunc:
		p.function(x)
		p.dropLineEnd()
	case api.ExMember, api.ExIndex, api.ExCall:
		p.postfix(x)
	case api.ExUnary, api.ExUpdate:
		p.ahead(x)
	case api.ExBinary, api.ExLogic:
		p.infix(x, p.operand)
	case api.ExAssign:
		p.infix(x, p.text)
	case api.ExCond:
		p.operand(x.Kids[0])
		p.put(" ? ")
		p.each(x.Kids[1:], " : ", p.text)
	}
}

// operand writes an expression where another one's operator is next to it.
func (p *printer) operand(n int) {
	switch p.nodes[n].Kind {
	case api.ExObject, api.ExFunc, api.ExUnary, api.ExUpdate, api.ExBinary, api.ExLogic, api.ExCond, api.ExAssign:
		p.inParentheses(n)
	default:
		p.text(n)
	}
}

// base writes an expression ahead of a postfix, where a number's point would go on as one.
func (p *printer) base(n int) {
	if p.nodes[n].Kind == api.ExNum {
		p.inParentheses(n)
		return
	}
	p.operand(n)
}

func (p *printer) postfix(x api.Ex) {
	p.base(x.Kids[0])
	switch x.Kind {
	case api.ExMember:
		p.put(".", x.Op)
	case api.ExIndex:
		p.put("[")
		p.text(x.Kids[1])
		p.put("]")
	case api.ExCall:
		p.put("(")
		p.each(x.Kids[1:], ", ", p.text)
		p.put(")")
	}
}

// ahead writes an operator and its one operand; that of an update may be behind.
func (p *printer) ahead(x api.Ex) {
	if x.Kind == api.ExUpdate && x.Num != 1 {
		p.operand(x.Kids[0])
		p.put(x.Op)
		return
	}
	p.put(x.Op)
	if x.Kind == api.ExUnary && (x.Op == "typeof" || x.Op == "delete") {
		p.put(" ")
	}
	p.operand(x.Kids[0])
}

func (p *printer) infix(x api.Ex, second func(n int)) {
	p.operand(x.Kids[0])
	p.put(" ", x.Op, " ")
	second(x.Kids[1])
}

func (p *printer) pairs(kids []int) {
	for i := 0; i < len(kids); i += 2 {
		if i > 0 {
			p.put(", ")
		}
		p.each(kids[i:i+2], ": ", p.text)
	}
}

// quoted writes a wide text in marks.
func (p *printer) quoted(w string) {
	p.put(`"`)
	for i := 0; i < utf.Length(w) && !p.long; i++ {
		u, _ := utf.At(w, i)
		p.put(quotedUnit(u))
	}
	p.put(`"`)
}

func quotedUnit(u int) string {
	const first, end = 32, 127
	if u < first || u >= end || u == '"' || u == '\\' {
		// The 1 ahead keeps the noughts.
		return `\u` + strconv.FormatInt(int64(u)+0x10000, 16)[1:]
	}
	return string([]byte{byte(u)})
}

// function writes one of either kind.
func (p *printer) function(x api.Ex) {
	body := len(x.Kids) - 1
	p.put("function ", x.Op, "(")
	p.each(x.Kids[:body], ", ", p.text)
	p.put(") ")
	p.text(x.Kids[body])
}
