package esparse

import (
	"math/rand"
	"slices"
	"strconv"
	"strings"
	"testing"

	"pennant/api"
)

// What may stand ahead of a lexeme: any gap, one in which no line ends, one in which one does.
const (
	anyGap = iota
	sameLineGap
	lineGap
)

type piece struct {
	text string
	gap  int
}

// A writer writes scripts of trees, one lexeme behind the other. Till the script is laid, a node's place is the number of its first lexeme.
type writer struct {
	dice *rand.Rand
	list []piece
	open bool // a statement has ended without its ;
}

// lexeme writes one, and tells its number.
func (w *writer) lexeme(text string) int {
	gap := anyGap
	if w.open {
		w.open = false
		switch text {
		case "}":
		case ";", "(", "[", "+", "-":
			w.put(";", anyGap)
		default:
			gap = lineGap
		}
	}
	return w.put(text, gap)
}

func (w *writer) put(text string, gap int) int {
	w.list = append(w.list, piece{text, gap})
	return len(w.list) - 1
}

// laid is the script, and where each lexeme stands in it.
func (w *writer) laid() (string, []int) {
	var src strings.Builder
	var at []int
	for _, p := range w.list {
		gaps := []string{" ", " /* */", "\t"}
		ends := []string{"\n", " \r\n ", " //x\n", " /*\n*/", "\u2028"}
		switch p.gap {
		case anyGap:
			gaps = append(gaps, " ", " ", ends[w.dice.Intn(len(ends))])
		case lineGap:
			gaps = ends
		}
		src.WriteString(gaps[w.dice.Intn(len(gaps))])
		at = append(at, src.Len())
		src.WriteString(p.text)
	}
	return src.String(), at
}

// level is how tight a node of an expression is.
func level(x *tree) int {
	switch x.ex.Kind {
	case api.ExAssign:
		return 0
	case api.ExCond:
		return 1
	case api.ExLogic, api.ExBinary:
		return 2 + slices.IndexFunc(ranks(), func(list []string) bool { return slices.Contains(list[1:], x.ex.Op) })
	case api.ExUnary:
		return 12
	case api.ExUpdate:
		return 13 - int(x.ex.Num)
	case api.ExMember, api.ExIndex, api.ExCall:
		return 14
	}
	return 15
}

// write writes an expression where one at least so tight may stand. Parentheses may stand around any.
func (w *writer) write(x *tree, least int) {
	if level(x) >= least && w.dice.Intn(6) > 0 {
		w.bare(x)
		return
	}
	w.inParentheses(x)
}

func (w *writer) inParentheses(x *tree) {
	w.lexeme("(")
	w.write(x, 0)
	w.lexeme(")")
}

func (w *writer) bare(x *tree) {
	own := level(x)
	switch {
	case own == 15:
		w.alone(x)
	case x.ex.Kind == api.ExUnary || x.ex.Kind == api.ExUpdate && x.ex.Num == 1:
		x.ex.At = w.lexeme(x.ex.Op)
		w.write(x.kids[0], 12)
	default:
		w.first(x, own)
		x.ex.At = x.kids[0].ex.At
		w.others(x, own)
	}
}

// first writes the first operand of a node that begins with it.
func (w *writer) first(x *tree, own int) {
	switch x.ex.Kind {
	case api.ExAssign, api.ExCond:
		own = 2
	case api.ExUpdate:
		own = 14
	}
	w.write(x.kids[0], own)
}

// others writes what is behind that.
func (w *writer) others(x *tree, own int) {
	switch x.ex.Kind {
	case api.ExAssign:
		w.lexeme(x.ex.Op)
		w.write(x.kids[1], 0)
	case api.ExCond:
		w.lexeme("?")
		w.write(x.kids[1], 0)
		w.lexeme(":")
		w.write(x.kids[2], 0)
	case api.ExLogic, api.ExBinary:
		w.lexeme(x.ex.Op)
		w.write(x.kids[1], own+1)
	case api.ExUpdate:
		w.put(x.ex.Op, sameLineGap)
	case api.ExMember:
		w.lexeme(".")
		w.lexeme(x.ex.Op)
	case api.ExIndex:
		w.lexeme("[")
		w.write(x.kids[1], 0)
		w.lexeme("]")
	case api.ExCall:
		w.lexeme("(")
		w.listed(x.kids[1:], w.expression)
		w.lexeme(")")
	}
}

func (w *writer) expression(x *tree) { w.write(x, 0) }

func (w *writer) listed(kids []*tree, write func(x *tree)) {
	for n, kid := range kids {
		if n > 0 {
			w.lexeme(",")
		}
		write(kid)
	}
}

// comma may write one behind the last of some.
func (w *writer) comma(kids []*tree) {
	if len(kids) > 0 && w.dice.Intn(2) == 0 {
		w.lexeme(",")
	}
}

// alone writes a primary.
func (w *writer) alone(x *tree) {
	switch x.ex.Kind {
	case api.ExNum:
		x.ex.At = w.lexeme(strconv.FormatFloat(x.ex.Num, 'g', -1, 64))
	case api.ExText:
		x.ex.At = w.lexeme(w.quoted(x.ex.Op))
	case api.ExName, api.ExConst:
		x.ex.At = w.lexeme(x.ex.Op)
	case api.ExArray:
		x.ex.At = w.lexeme("[")
		w.listed(x.kids, w.expression)
		w.comma(x.kids)
		w.lexeme("]")
	case api.ExObject:
		x.ex.At = w.lexeme("{")
		w.pairs(x.kids)
		w.lexeme("}")
	case api.ExFunc:
		w.function(x)
	}
}

func (w *writer) quoted(text string) string {
	mark := []string{"'", `"`}[w.dice.Intn(2)]
	out := mark
	for i := 0; i < len(text); i += 2 {
		u := int64(text[i])<<8 | int64(text[i+1])
		if u >= 'a' && u <= 'z' && w.dice.Intn(2) == 0 {
			out += string(rune(u))
			continue
		}
		out += `\u` + strconv.FormatInt(0x10000+u, 16)[1:]
	}
	return out + mark
}

func (w *writer) pairs(kids []*tree) {
	for n := 0; n < len(kids); n += 2 {
		if n > 0 {
			w.lexeme(",")
		}
		w.key(kids[n])
		w.lexeme(":")
		w.write(kids[n+1], 0)
	}
	w.comma(kids)
}

// key writes a key as a text, or as a name, a word or a number that says it.
func (w *writer) key(x *tree) {
	text := plain(x.ex.Op)
	ways := map[string][]string{"12": {"12", "0xC", "1.2e1", "12."}, "1.5": {"1.5", "15e-1", "1.50"}, "1e+21": {"1e21", "1000000000000000000000"}, "": nil, "é": nil}
	list, special := ways[text]
	if !special {
		list = []string{text}
	}
	list = append(slices.Clone(list), w.quoted(x.ex.Op))
	x.ex.At = w.lexeme(list[w.dice.Intn(len(list))])
}

func (w *writer) function(x *tree) {
	x.ex.At = w.lexeme("function")
	if x.ex.Op != "" {
		w.lexeme(x.ex.Op)
	}
	w.lexeme("(")
	last := len(x.kids) - 1
	w.listed(x.kids[:last], w.alone)
	w.lexeme(")")
	w.statement(x.kids[last])
}

// begins is the leaf that an expression begins with, if no parentheses stand around it, and the node that it is the first kid of.
func begins(x *tree) (*tree, *tree) {
	up := x
	for level(x) < 15 && x.ex.Kind != api.ExUnary && !(x.ex.Kind == api.ExUpdate && x.ex.Num == 1) {
		up, x = x, x.kids[0]
	}
	return x, up
}

// whole writes an expression that is a statement, or stands for one; where it must not begin as it does parentheses stand around it.
func (w *writer) whole(x *tree, wrong func(first, up *tree) bool) {
	count := len(w.list)
	if wrong(begins(x.kids[0])) {
		w.inParentheses(x.kids[0])
	} else {
		w.write(x.kids[0], 0)
	}
	x.ex.At = count
	// A ; of the statement ahead came first.
	if w.list[count].text == ";" {
		x.ex.At++
	}
}

func isCurly(first, _ *tree) bool {
	return first.ex.Kind == api.ExObject || first.ex.Kind == api.ExFunc
}

func isKeyed(first, up *tree) bool {
	return first.ex.Kind == api.ExName && up.ex.Kind == api.ExBinary && up.ex.Op == "in"
}

// end ends a statement with its ;, or without.
func (w *writer) end() {
	if w.dice.Intn(2) == 0 {
		w.lexeme(";")
		return
	}
	w.open = true
}

func (w *writer) statement(x *tree) {
	switch x.ex.Kind {
	case api.StExpr:
		w.whole(x, isCurly)
		w.end()
	case api.StVar:
		w.variables(x)
		w.end()
	case api.StBlock:
		x.ex.At = w.lexeme("{")
		w.statements(x.kids)
		w.lexeme("}")
	case api.StEmpty:
		x.ex.At = w.lexeme(";")
	case api.StIf:
		w.branch(x)
	case api.StWhile, api.StFor, api.StForIn:
		w.loop(x)
	case api.StReturn, api.StThrow, api.StBreak, api.StContinue:
		w.leaving(x)
	case api.StTry:
		w.try(x)
	case api.StSwitch:
		w.choice(x)
	case api.StFunc:
		w.function(x)
	}
}

func (w *writer) statements(kids []*tree) {
	for _, kid := range kids {
		w.statement(kid)
	}
}

func (w *writer) variables(x *tree) {
	x.ex.At = w.lexeme("var")
	w.listed(x.kids, func(x *tree) {
		x.ex.At = w.lexeme(x.ex.Op)
		if len(x.kids) > 0 {
			w.lexeme("=")
			w.write(x.kids[0], 0)
		}
	})
}

// condition writes what stands in the parentheses of a statement.
func (w *writer) condition(x *tree) {
	w.lexeme("(")
	w.write(x, 0)
	w.lexeme(")")
}

func (w *writer) branch(x *tree) {
	x.ex.At = w.lexeme("if")
	w.condition(x.kids[0])
	w.statement(x.kids[1])
	if len(x.kids) == 3 {
		w.lexeme("else")
		w.statement(x.kids[2])
	}
}

func (w *writer) loop(x *tree) {
	if x.ex.Kind == api.StWhile {
		x.ex.At = w.lexeme("while")
		w.condition(x.kids[0])
		w.statement(x.kids[1])
		return
	}
	x.ex.At = w.lexeme("for")
	w.lexeme("(")
	if x.ex.Kind == api.StForIn {
		if x.ex.Num == 1 {
			w.lexeme("var")
		}
		w.lexeme(x.ex.Op)
		w.lexeme("in")
		w.write(x.kids[0], 0)
	} else {
		w.head(x.kids)
	}
	w.lexeme(")")
	w.statement(x.kids[len(x.kids)-1])
}

// head writes the three parts of a for, up to the ).
func (w *writer) head(kids []*tree) {
	for n, kid := range kids[:3] {
		if n > 0 {
			w.lexeme(";")
		}
		switch kid.ex.Kind {
		case api.StEmpty:
			kid.ex.At = len(w.list) // that of the mark that comes next
		case api.StVar:
			w.variables(kid)
		case api.StExpr:
			w.whole(kid, isKeyed)
		default:
			w.write(kid, 0)
		}
	}
}

func (w *writer) leaving(x *tree) {
	words := map[int]string{api.StReturn: "return", api.StThrow: "throw", api.StBreak: "break", api.StContinue: "continue"}
	x.ex.At = w.lexeme(words[x.ex.Kind])
	if len(x.kids) > 0 {
		count := len(w.list)
		w.write(x.kids[0], 0)
		w.list[count].gap = sameLineGap
	}
	w.end()
}

func (w *writer) try(x *tree) {
	x.ex.At = w.lexeme("try")
	blocks := x.kids
	w.statement(blocks[0])
	blocks = blocks[1:]
	if x.ex.Num != 2 {
		w.lexeme("catch")
		w.lexeme("(")
		w.lexeme(x.ex.Op)
		w.lexeme(")")
		w.statement(blocks[0])
		blocks = blocks[1:]
	}
	if x.ex.Num != 1 {
		w.lexeme("finally")
		w.statement(blocks[0])
	}
}

func (w *writer) choice(x *tree) {
	x.ex.At = w.lexeme("switch")
	w.condition(x.kids[0])
	w.lexeme("{")
	for _, kid := range x.kids[1:] {
		list := kid.kids
		if kid.ex.Num == 1 {
			kid.ex.At = w.lexeme("default")
		} else {
			kid.ex.At = w.lexeme("case")
			w.write(list[0], 0)
			list = list[1:]
		}
		w.lexeme(":")
		w.statements(list)
	}
	w.lexeme("}")
}

// script is a tree's script; the tree's places are now those in it.
func script(dice *rand.Rand, x *tree) (string, []piece) {
	w := &writer{dice: dice}
	if x.ex.Kind == api.StProgram {
		w.statements(x.kids)
	} else {
		w.write(x, 0)
	}
	src, at := w.laid()
	var settle func(x *tree)
	settle = func(x *tree) {
		if x.ex.Kind != api.StProgram {
			x.ex.At = at[x.ex.At]
		}
		for _, kid := range x.kids {
			settle(kid)
		}
	}
	settle(x)
	return src, w.list
}

// made is a tree by dice: a program's, or an expression's.
func made(dice *rand.Rand, whole bool) *tree {
	m := maker{dice}
	if !whole {
		return m.expression(6)
	}
	x := leaf(api.StProgram, "", 0)
	for range dice.Intn(4) {
		x.kids = append(x.kids, m.statement(6, setting{itself: true}))
	}
	return x
}

// P6.1, P6.2: trees by dice are read as they are, however their scripts are written: with parentheses around any expressions, with any gaps, and with or without a ;.
func TestTreesByDice(t *testing.T) {
	dice := rand.New(rand.NewSource(3))
	right, long := 0, 0
	for n := range 10000 {
		x, call := made(dice, n%2 == 0), Expr
		if n%2 == 0 {
			call = Program
		}
		for range 2 {
			src, _ := script(dice, x)
			if len(src) > api.MaxSource {
				long++
				continue
			}
			nodes, at, e := read(t, call, src)
			if e != api.OK || !sameNodes(nodes, laid(x)) {
				t.Fatalf("%q: %v, %d, %d, not %v", src, nodes, at, e, laid(x))
			}
			right++
		}
	}
	if right < 15000 || long > 1000 {
		t.Error(right, long)
	}
}

// P6.1: right scripts of which some lexemes are taken away, put in or changed.
func TestBentScripts(t *testing.T) {
	p := newPair()
	dice := rand.New(rand.NewSource(4))
	others := pieces()
	right, wrong := 0, 0
	for range 8000 {
		_, list := script(dice, made(dice, true))
		if len(list) > 100 {
			continue
		}
		for range 3 {
			bent := slices.Clone(list)
			for range 1 + dice.Intn(2) {
				i, j := dice.Intn(len(bent)+1), 0
				if i < len(bent) {
					j = dice.Intn(2)
				}
				bent = slices.Replace(bent, i, i+j, piece{others[dice.Intn(len(others))], dice.Intn(3)})
				if k := dice.Intn(len(bent)); dice.Intn(3) == 0 {
					bent = slices.Delete(bent, k, k+1)
				}
			}
			w := &writer{dice: dice, list: bent}
			src, _ := w.laid()
			if n, _ := p.hold(t, src); n > 0 {
				right++
			} else {
				wrong++
			}
		}
	}
	if right < 2000 || wrong < 8000 {
		t.Error(right, wrong)
	}
}
