package esparse

import (
	"math/rand"

	"pennant/api"
)

// A maker makes trees by dice.
type maker struct {
	dice *rand.Rand
}

func (m *maker) one(list ...string) string { return list[m.dice.Intn(len(list))] }

func (m *maker) name() string { return m.one("a", "b", "c", "$", "_x1", "of", "undefined") }

func leaf(kind int, op string, num float64, kids ...*tree) *tree {
	return &tree{ex: api.Ex{Kind: kind, Op: op, Num: num}, kids: kids}
}

// expression makes one with so many nodes in one another at most.
func (m *maker) expression(depth int) *tree {
	if depth < 2 {
		return m.primary()
	}
	kid := func() *tree { return m.expression(depth - 1 - m.dice.Intn(2)) }
	switch m.dice.Intn(14) {
	case 0:
		return leaf(api.ExAssign, m.one("=", "+=", "-=", "*=", "/=", "%="), 0, m.place(depth-1, true), kid())
	case 1:
		return leaf(api.ExCond, "", 0, kid(), kid(), kid())
	case 2:
		return leaf(api.ExLogic, m.one("||", "&&"), 0, kid(), kid())
	case 3, 4, 5:
		return leaf(api.ExBinary, m.one("|", "^", "&", "==", "!=", "===", "!==", "<", ">", "<=", ">=", "in", "<<", ">>", ">>>", "+", "-", "*", "/", "%"), 0, kid(), kid())
	case 6:
		return leaf(api.ExUnary, m.one("-", "+", "!", "~", "typeof"), 0, kid())
	case 7:
		return leaf(api.ExUnary, "delete", 0, m.place(depth-1, false))
	case 8:
		return leaf(api.ExUpdate, m.one("++", "--"), float64(m.dice.Intn(2)), m.place(depth-1, true))
	case 9:
		return m.place(depth, true)
	case 10:
		return leaf(api.ExCall, "", 0, append([]*tree{kid()}, m.several(kid)...)...)
	case 11:
		return leaf(api.ExArray, "", 0, m.several(kid)...)
	case 12:
		return leaf(api.ExObject, "", 0, m.pairs(kid)...)
	}
	return m.function(api.ExFunc, m.one("", m.name()), depth)
}

func (m *maker) several(kid func() *tree) []*tree {
	var kids []*tree
	for range m.dice.Intn(4) {
		kids = append(kids, kid())
	}
	return kids
}

func (m *maker) pairs(kid func() *tree) []*tree {
	var kids []*tree
	for range m.dice.Intn(3) {
		kids = append(kids, leaf(api.ExText, wideText(m.one("a", "if", "é", "", "12", "1.5", "1e+21")), 0), kid())
	}
	return kids
}

func (m *maker) primary() *tree {
	switch m.dice.Intn(5) {
	case 0:
		return leaf(api.ExNum, "", []float64{0, 1, 1.5, 31, 1e21}[m.dice.Intn(5)])
	case 1:
		return leaf(api.ExText, m.one("", wideText("a"), wideText("é\n'"), "\xd8\x3d", "++", "in", "\x00\x22\x00\x5c"), 0)
	case 2:
		return leaf(api.ExConst, m.one("true", "false", "null"), 0)
	}
	return leaf(api.ExName, m.name(), 0)
}

// place makes what may be written, or deleted.
func (m *maker) place(depth int, names bool) *tree {
	if depth < 2 {
		depth = 2
		if names {
			return leaf(api.ExName, m.name(), 0)
		}
	}
	base := m.expression(depth - 1)
	if m.dice.Intn(2) == 0 {
		return leaf(api.ExMember, m.one("a", "if", "in", "length", "function"), 0, base)
	}
	return leaf(api.ExIndex, "", 0, base, m.expression(depth-1))
}

func (m *maker) function(kind int, name string, depth int) *tree {
	kids := m.several(func() *tree { return leaf(api.ExName, m.name(), 0) })
	body := m.block(depth-1, setting{itself: true, function: true})
	return leaf(kind, name, 0, append(kids, body)...)
}

func (m *maker) block(depth int, in setting) *tree {
	return leaf(api.StBlock, "", 0, m.several(func() *tree { return m.statement(depth-1, in) })...)
}

// statement makes one that may stand in that setting.
func (m *maker) statement(depth int, in setting) *tree {
	if depth < 2 {
		return leaf(api.StEmpty, "", 0)
	}
	value := func() *tree { return m.expression(min(depth-1, 4)) }
	part, loop, cases := in.inPart(), in.inLoop(), in.inCases()
	switch m.dice.Intn(16) {
	case 0:
		return m.block(depth, part)
	case 1:
		return m.variables(value)
	case 2:
		return leaf(api.StIf, "", 0, value(), m.statement(depth-1, part))
	case 3:
		yes := m.statement(depth-1, part)
		if takesElse(yes) {
			yes = leaf(api.StBlock, "", 0, yes)
		}
		return leaf(api.StIf, "", 0, value(), yes, m.statement(depth-1, part))
	case 4:
		return leaf(api.StWhile, "", 0, value(), m.statement(depth-1, loop))
	case 5:
		return leaf(api.StFor, "", 0, m.forFirst(value), m.orNothing(value), m.orNothing(value), m.statement(depth-1, loop))
	case 6:
		return leaf(api.StForIn, m.name(), float64(m.dice.Intn(2)), value(), m.statement(depth-1, loop))
	case 7:
		return leaf(api.StThrow, "", 0, value())
	case 8:
		return m.try(depth, part)
	case 9:
		return m.choice(depth, value, cases)
	case 10, 11:
		return m.leaving(value, in)
	case 12:
		if in.itself {
			return m.function(api.StFunc, m.name(), depth)
		}
	}
	return leaf(api.StExpr, "", 0, value())
}

func (m *maker) variables(value func() *tree) *tree {
	x := leaf(api.StVar, "", 0)
	for range 1 + m.dice.Intn(3) {
		kid := leaf(api.StDecl, m.name(), 0)
		if m.dice.Intn(2) == 0 {
			kid.kids = []*tree{value()}
		}
		x.kids = append(x.kids, kid)
	}
	return x
}

// takesElse says whether an else behind a statement would be its own.
func takesElse(x *tree) bool {
	switch x.ex.Kind {
	case api.StIf:
		return len(x.kids) == 2 || takesElse(x.kids[2])
	case api.StWhile, api.StFor, api.StForIn:
		return takesElse(x.kids[len(x.kids)-1])
	}
	return false
}

func (m *maker) orNothing(value func() *tree) *tree {
	if m.dice.Intn(2) == 0 {
		return leaf(api.StEmpty, "", 0)
	}
	return value()
}

func (m *maker) forFirst(value func() *tree) *tree {
	switch m.dice.Intn(3) {
	case 0:
		return leaf(api.StEmpty, "", 0)
	case 1:
		return m.variables(value)
	}
	return leaf(api.StExpr, "", 0, value())
}

func (m *maker) try(depth int, in setting) *tree {
	x := leaf(api.StTry, "", float64(1+m.dice.Intn(3)), m.block(depth-1, in), m.block(depth-1, in))
	if x.ex.Num != 2 {
		x.ex.Op = m.name()
	}
	if x.ex.Num == 3 {
		x.kids = append(x.kids, m.block(depth-1, in))
	}
	return x
}

func (m *maker) choice(depth int, value func() *tree, in setting) *tree {
	x := leaf(api.StSwitch, "", 0, value())
	others := m.dice.Intn(4)
	for n := range m.dice.Intn(4) {
		kid := leaf(api.StCase, "", 1)
		if n != others {
			kid = leaf(api.StCase, "", 0, value())
		}
		kid.kids = append(kid.kids, m.several(func() *tree { return m.statement(depth-2, in) })...)
		x.kids = append(x.kids, kid)
	}
	return x
}

func (m *maker) leaving(value func() *tree, in setting) *tree {
	switch n := m.dice.Intn(4); {
	case n == 0 && in.loop:
		return leaf(api.StContinue, "", 0)
	case n == 1 && (in.loop || in.cases):
		return leaf(api.StBreak, "", 0)
	case n == 2 && in.function:
		return leaf(api.StReturn, "", 0)
	case in.function:
		return leaf(api.StReturn, "", 0, value())
	}
	return leaf(api.StThrow, "", 0, value())
}
