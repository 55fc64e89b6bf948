package esparse

import (
	"slices"
	"strings"

	"pennant/api"
	"pennant/eslex"
	"pennant/esnum"
)

// A second reader: the chapter's tables as rules, and a machine that goes by whatever rules. Which part comes next is told by the next lexeme alone, so that the first lexeme that fits nowhere is the first one that can't stand where it stands.

type machine struct {
	rules map[string]part
	list  []api.Lexeme
	end   int
	in    surroundings
}

type surroundings struct {
	itself, function, loop, cases, others bool
}

// A frame is a rule under way: what its next node has, and the nodes that are there.
type frame struct {
	ex    api.Ex
	at    int
	trees []*tree
}

// A part of a rule: may it begin with the next lexeme, may it be nothing, and what reading it does.
type part interface {
	fits(m *machine) bool
	empty(m *machine) bool
	read(m *machine, f *frame)
}

type (
	word  string   // this word or mark
	ops   []string // one of these, which becomes the node's Op
	kinds []int    // a lexeme of one of these kinds, which becomes the node's Op, or Num
	rule  string
	seq   []part
	alt   []part
	opt   []part
	many  []part
	act   func(m *machine, f *frame)
	when  struct {
		cond func(m *machine) bool
		part part
	}
)

// A refusal is how the machine gives up.
type refusal struct {
	at int
	e  api.Errno
}

func (m *machine) next(n int) api.Lexeme {
	if n < len(m.list) {
		return m.list[n]
	}
	return api.Lexeme{At: m.end}
}

func (m *machine) isFixed(n int, texts ...string) bool {
	x := m.next(n)
	return (x.Kind == api.LexMark || x.Kind == api.LexWord) && slices.Contains(texts, x.Text)
}

func (m *machine) refuse() { panic(refusal{m.next(0).At, api.ErrSyntax}) }

func (m *machine) take(ok bool) api.Lexeme {
	if !ok {
		m.refuse()
	}
	x := m.list[0]
	m.list = m.list[1:]
	return x
}

func one(operators string) ops { return strings.Fields(operators) }

func (p word) fits(m *machine) bool      { return m.isFixed(0, string(p)) }
func (p word) empty(*machine) bool       { return false }
func (p word) read(m *machine, _ *frame) { m.take(p.fits(m)) }

func (p ops) fits(m *machine) bool      { return m.isFixed(0, p...) }
func (p ops) empty(*machine) bool       { return false }
func (p ops) read(m *machine, f *frame) { f.ex.Op = m.take(p.fits(m)).Text }

func (p kinds) fits(m *machine) bool { return slices.Contains(p, m.next(0).Kind) }
func (p kinds) empty(*machine) bool  { return false }
func (p kinds) read(m *machine, f *frame) {
	x := m.take(p.fits(m))
	if x.Kind == api.LexNum {
		f.ex.Num = x.Num
	} else {
		f.ex.Op = x.Text
	}
}

func (p rule) fits(m *machine) bool  { return m.rules[string(p)].fits(m) }
func (p rule) empty(m *machine) bool { return m.rules[string(p)].empty(m) }
func (p rule) read(m *machine, f *frame) {
	own := &frame{at: m.next(0).At}
	m.rules[string(p)].read(m, own)
	f.trees = append(f.trees, own.trees...)
}

func (p seq) fits(m *machine) bool {
	for _, x := range p {
		if x.fits(m) {
			return true
		}
		if !x.empty(m) {
			return false
		}
	}
	return false
}

func (p seq) empty(m *machine) bool {
	return !slices.ContainsFunc(p, func(x part) bool { return !x.empty(m) })
}

func (p seq) read(m *machine, f *frame) {
	for _, x := range p {
		x.read(m, f)
	}
}

func (p alt) fits(m *machine) bool {
	return slices.ContainsFunc(p, func(x part) bool { return x.fits(m) })
}

func (p alt) empty(m *machine) bool {
	return slices.ContainsFunc(p, func(x part) bool { return x.empty(m) })
}

func (p alt) read(m *machine, f *frame) {
	i := slices.IndexFunc(p, func(x part) bool { return x.fits(m) })
	if i < 0 {
		i = slices.IndexFunc(p, func(x part) bool { return x.empty(m) })
	}
	if i < 0 {
		m.refuse()
	}
	p[i].read(m, f)
}

func (p opt) fits(m *machine) bool { return seq(p).fits(m) }
func (p opt) empty(*machine) bool  { return true }
func (p opt) read(m *machine, f *frame) {
	if p.fits(m) {
		seq(p).read(m, f)
	}
}

func (p many) fits(m *machine) bool { return seq(p).fits(m) }
func (p many) empty(*machine) bool  { return true }
func (p many) read(m *machine, f *frame) {
	for p.fits(m) {
		seq(p).read(m, f)
	}
}

func (p act) fits(*machine) bool        { return false }
func (p act) empty(*machine) bool       { return true }
func (p act) read(m *machine, f *frame) { p(m, f) }

func (p when) fits(m *machine) bool { return p.cond(m) && p.part.fits(m) }
func (p when) empty(*machine) bool  { return false }
func (p when) read(m *machine, f *frame) {
	if !p.cond(m) {
		m.refuse()
	}
	p.part.read(m, f)
}

// node makes one of all that the rule has by now.
func node(kind int) act {
	return func(_ *machine, f *frame) {
		x := &tree{ex: f.ex, kids: f.trees}
		x.ex.Kind, x.ex.At = kind, f.at
		switch {
		case kind == api.ExMember || kind == api.ExIndex || kind == api.ExCall || kind == api.ExBinary || kind == api.ExLogic || kind == api.ExCond || kind == api.ExAssign || kind == api.ExUpdate && f.ex.Num == 0:
			x.ex.At = f.trees[0].ex.At
		case kind == api.StProgram:
			x.ex.At = 0
		}
		f.trees, f.ex = []*tree{x}, api.Ex{}
	}
}

func more(n float64) act { return func(_ *machine, f *frame) { f.ex.Num += n } }

// operand asks for the kind of what was read last.
func operand(kinds ...int) act {
	return func(_ *machine, f *frame) {
		x := f.trees[len(f.trees)-1].ex
		if !slices.Contains(kinds, x.Kind) {
			panic(refusal{x.At, api.ErrPlace})
		}
	}
}

// A within is a part in other surroundings.
type within struct {
	change func(in *surroundings)
	part   part
}

func (p within) fits(m *machine) bool  { return p.part.fits(m) }
func (p within) empty(m *machine) bool { return p.part.empty(m) }
func (p within) read(m *machine, f *frame) {
	outer := m.in
	p.change(&m.in)
	p.part.read(m, f)
	m.in = outer
}

func left(operators, tighter string, kind int) part {
	return seq{rule(tighter), many{one(operators), rule(tighter), node(kind)}}
}

func finish(m *machine, _ *frame) {
	switch {
	case m.isFixed(0, ";"):
		m.take(true)
	case !mayFinish(m):
		m.refuse()
	}
}

func mayFinish(m *machine) bool {
	return len(m.list) == 0 || m.isFixed(0, "}", ";") || m.next(0).Line
}

func sameLine(m *machine) bool { return !m.next(0).Line }

func goesThroughKeys(m *machine) bool {
	n := 0
	if m.isFixed(0, "var") {
		n = 1
	}
	return m.next(n).Kind == api.LexName && m.isFixed(n+1, "in")
}

func keyText(_ *machine, f *frame) { f.ex.Op = wideText(f.ex.Op) }

func keyNumber(_ *machine, f *frame) { f.ex.Op, f.ex.Num = wideText(esnum.Text(f.ex.Num)), 0 }

func expressionRules() map[string]part {
	place := operand(api.ExName, api.ExMember, api.ExIndex)
	name := kinds{api.LexName}
	return map[string]part{
		"E":       seq{rule("choice"), opt{one("= += -= *= /= %="), place, rule("E"), node(api.ExAssign)}},
		"choice":  seq{rule("or"), opt{word("?"), rule("E"), word(":"), rule("E"), node(api.ExCond)}},
		"or":      left("||", "and", api.ExLogic),
		"and":     left("&&", "bar", api.ExLogic),
		"bar":     left("|", "hat", api.ExBinary),
		"hat":     left("^", "amp", api.ExBinary),
		"amp":     left("&", "equal", api.ExBinary),
		"equal":   left("== != === !==", "order", api.ExBinary),
		"order":   left("< > <= >= in", "shift", api.ExBinary),
		"shift":   left("<< >> >>>", "sum", api.ExBinary),
		"sum":     left("+ -", "product", api.ExBinary),
		"product": left("* / %", "unary", api.ExBinary),
		"unary": alt{
			seq{one("- + ! ~ typeof"), rule("unary"), node(api.ExUnary)},
			seq{one("delete"), rule("unary"), operand(api.ExMember, api.ExIndex), node(api.ExUnary)},
			seq{one("++ --"), rule("unary"), place, more(1), node(api.ExUpdate)},
			rule("behind"),
		},
		"behind": seq{rule("postfix"), opt{when{sameLine, one("++ --")}, place, node(api.ExUpdate)}},
		"postfix": seq{rule("primary"), many{alt{
			seq{word("."), kinds{api.LexName, api.LexWord}, node(api.ExMember)},
			seq{word("["), rule("E"), word("]"), node(api.ExIndex)},
			seq{word("("), opt{rule("E"), many{word(","), rule("E")}}, word(")"), node(api.ExCall)},
		}}},
		"primary": alt{
			seq{kinds{api.LexNum}, node(api.ExNum)},
			seq{kinds{api.LexText}, node(api.ExText)},
			rule("name"),
			seq{one("true false null"), node(api.ExConst)},
			seq{word("("), rule("E"), word(")")},
			seq{word("["), rule("items"), word("]"), node(api.ExArray)},
			seq{word("{"), rule("pairs"), word("}"), node(api.ExObject)},
			seq{word("function"), opt{name}, rule("parameters"), rule("body"), node(api.ExFunc)},
		},
		"name":  seq{name, node(api.ExName)},
		"items": opt{rule("E"), opt{word(","), rule("items")}},
		"pairs": opt{rule("key"), word(":"), rule("E"), opt{word(","), rule("pairs")}},
		"key": alt{
			seq{kinds{api.LexName, api.LexWord}, act(keyText), node(api.ExText)},
			seq{kinds{api.LexText}, node(api.ExText)},
			seq{kinds{api.LexNum}, act(keyNumber), node(api.ExText)},
		},
		"parameters": seq{word("("), opt{rule("name"), many{word(","), rule("name")}}, word(")")},
		"body":       within{func(in *surroundings) { *in = surroundings{itself: true, function: true} }, rule("block")},
	}
}

func statementRules() map[string]part {
	name := kinds{api.LexName}
	inner := func(p part) part {
		return within{func(in *surroundings) { in.itself = false }, p}
	}
	loop := within{func(in *surroundings) { in.itself, in.loop = false, true }, rule("S")}
	block := inner(rule("block"))
	return map[string]part{
		"S": alt{
			block,
			seq{rule("variables"), act(finish)},
			seq{word(";"), node(api.StEmpty)},
			seq{word("if"), word("("), rule("E"), word(")"), inner(rule("S")), opt{word("else"), inner(rule("S"))}, node(api.StIf)},
			seq{word("while"), word("("), rule("E"), word(")"), loop, node(api.StWhile)},
			seq{word("for"), word("("), alt{
				when{goesThroughKeys, seq{opt{word("var"), more(1)}, name, word("in"), rule("E"), word(")"), loop, node(api.StForIn)}},
				seq{alt{rule("variables"), rule("expression"), rule("nothing")}, word(";"), alt{rule("E"), rule("nothing")}, word(";"), alt{rule("E"), rule("nothing")}, word(")"), loop, node(api.StFor)},
			}},
			seq{when{func(m *machine) bool { return m.in.function }, word("return")}, opt{when{func(m *machine) bool { return !mayFinish(m) }, rule("E")}}, node(api.StReturn), act(finish)},
			seq{when{func(m *machine) bool { return m.in.loop || m.in.cases }, word("break")}, node(api.StBreak), act(finish)},
			seq{when{func(m *machine) bool { return m.in.loop }, word("continue")}, node(api.StContinue), act(finish)},
			seq{word("throw"), when{sameLine, rule("E")}, node(api.StThrow), act(finish)},
			seq{word("try"), block, alt{
				seq{word("catch"), word("("), name, word(")"), block, more(1), opt{word("finally"), block, more(2)}},
				seq{word("finally"), block, more(2)},
			}, node(api.StTry)},
			seq{word("switch"), word("("), rule("E"), word(")"), word("{"), within{func(in *surroundings) { in.itself, in.cases, in.others = false, true, false }, many{rule("case")}}, word("}"), node(api.StSwitch)},
			seq{when{func(m *machine) bool { return m.in.itself }, word("function")}, name, rule("parameters"), rule("body"), node(api.StFunc)},
			when{func(m *machine) bool { return !m.isFixed(0, "{", "function") }, seq{rule("expression"), act(finish)}},
		},
		"block":      seq{word("{"), many{rule("S")}, word("}"), node(api.StBlock)},
		"variables":  seq{word("var"), rule("variable"), many{word(","), rule("variable")}, node(api.StVar)},
		"variable":   seq{name, opt{word("="), rule("E")}, node(api.StDecl)},
		"expression": seq{rule("E"), node(api.StExpr)},
		"nothing":    node(api.StEmpty),
		"case": alt{
			seq{word("case"), rule("E"), word(":"), many{rule("S")}, node(api.StCase)},
			seq{when{func(m *machine) bool { return !m.in.others }, word("default")}, act(func(m *machine, _ *frame) { m.in.others = true }), word(":"), many{rule("S")}, more(1), node(api.StCase)},
		},
		"program": seq{many{rule("S")}, node(api.StProgram)},
	}
}

// follow is what the rules say of a whole script.
func follow(rules map[string]part, root, src string) (result outcome) {
	list, at, e := eslex.Lex(src)
	if e != api.OK {
		return outcome{nil, at, e}
	}
	defer func() {
		if r, ok := recover().(refusal); ok {
			result = outcome{nil, r.at, r.e}
		}
	}()
	m := &machine{rules: rules, list: list, end: len(src), in: surroundings{itself: true}}
	f := &frame{}
	rule(root).read(m, f)
	if len(m.list) > 0 {
		m.refuse()
	}
	nodes := laid(f.trees[0])
	if len(nodes) > api.MaxAst || depth(f.trees[0]) > api.MaxNest {
		return outcome{nil, 0, api.ErrFull}
	}
	return outcome{nodes, 0, api.OK}
}

// depth is how many nodes stand in one another, at most.
func depth(x *tree) int {
	most := 0
	for _, kid := range x.kids {
		most = max(most, depth(kid))
	}
	return most + 1
}
