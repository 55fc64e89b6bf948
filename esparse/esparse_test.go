package esparse

import (
	"slices"
	"strconv"
	"strings"
	"testing"
	"unicode/utf16"

	"pennant/api"
)

// A tree is a node with all that is below it, as the tests look at it.
type tree struct {
	ex   api.Ex
	kids []*tree
}

// wideText is the wide text of a text's characters.
func wideText(s string) string {
	var b strings.Builder
	for _, u := range utf16.Encode([]rune(s)) {
		b.WriteByte(byte(u >> 8))
		b.WriteByte(byte(u))
	}
	return b.String()
}

// plain is what a wide text of characters says.
func plain(w string) string {
	var units []uint16
	for i := 0; i+1 < len(w); i += 2 {
		units = append(units, uint16(w[i])<<8|uint16(w[i+1]))
	}
	return string(utf16.Decode(units))
}

// grown is the tree that the nodes tell; they are walked from the root, so that what none of them has as a kid lacks.
func grown(nodes []api.Ex) *tree {
	var grow func(n int) *tree
	grow = func(n int) *tree {
		x := &tree{ex: nodes[n]}
		for _, kid := range nodes[n].Kids {
			x.kids = append(x.kids, grow(kid))
		}
		return x
	}
	return grow(len(nodes) - 1)
}

// laid are a tree's nodes as the chapter orders them: a node's kids, and all below them, ahead of it, the first kid first.
func laid(x *tree) []api.Ex {
	var nodes []api.Ex
	var lay func(x *tree) int
	lay = func(x *tree) int {
		var kids []int
		for _, kid := range x.kids {
			kids = append(kids, lay(kid))
		}
		ex := x.ex
		ex.Kids = kids
		nodes = append(nodes, ex)
		return len(nodes) - 1
	}
	lay(x)
	return nodes
}

func sameNodes(a, b []api.Ex) bool {
	return slices.EqualFunc(a, b, func(a, b api.Ex) bool {
		return a.Kind == b.Kind && a.Op == b.Op && a.Num == b.Num && a.At == b.At && slices.Equal(a.Kids, b.Kids)
	})
}

// labels are the words by which the tests write nodes; that of a node with an Op is followed by it.
func labels() map[int]string {
	return map[int]string{
		api.ExArray: "array", api.ExObject: "object", api.ExFunc: "func", api.ExMember: "member", api.ExIndex: "index", api.ExCall: "call",
		api.ExUnary: "un", api.ExUpdate: "update", api.ExBinary: "bin", api.ExLogic: "logic", api.ExCond: "cond", api.ExAssign: "assign",
		api.StExpr: "expr", api.StVar: "var", api.StDecl: "decl", api.StBlock: "block", api.StIf: "if", api.StWhile: "while", api.StFor: "for", api.StForIn: "forin",
		api.StReturn: "return", api.StBreak: "break", api.StContinue: "continue", api.StThrow: "throw", api.StTry: "try", api.StSwitch: "switch", api.StCase: "case", api.StFunc: "def", api.StEmpty: "empty", api.StProgram: "program",
	}
}

// shown writes a tree with all that it has but places: 1, 'text', name, #true, and (label op num kid ..) of others, op and num where they aren't zero.
func shown(x *tree) string {
	number := strconv.FormatFloat(x.ex.Num, 'g', -1, 64)
	switch {
	case x.ex.Kind == api.ExNum && x.ex.Op == "" && len(x.kids) == 0:
		return number
	case x.ex.Kind == api.ExText && x.ex.Num == 0 && len(x.kids) == 0:
		return "'" + plain(x.ex.Op) + "'"
	case x.ex.Kind == api.ExName && x.ex.Num == 0 && len(x.kids) == 0:
		return x.ex.Op
	case x.ex.Kind == api.ExConst && x.ex.Num == 0 && len(x.kids) == 0:
		return "#" + x.ex.Op
	}
	list := []string{labels()[x.ex.Kind]}
	if list[0] == "" {
		list[0] = "kind" + strconv.Itoa(x.ex.Kind)
	}
	if x.ex.Op != "" {
		list = append(list, x.ex.Op)
	}
	if x.ex.Num != 0 {
		list = append(list, number)
	}
	for _, kid := range x.kids {
		list = append(list, shown(kid))
	}
	return "(" + strings.Join(list, " ") + ")"
}

// read calls Expr or Program, and looks at what holds of whatever they answer (P6.1, P6.3).
func read(t *testing.T, call func(string) (api.Ast, int, api.Errno), src string) ([]api.Ex, int, api.Errno) {
	t.Helper()
	a, at, e := call(src)
	if e != api.OK {
		if len(a.Nodes) != 0 || at < 0 || at > len(src) {
			t.Fatalf("%.80q: %v, %d, %d", src, a, at, e)
		}
		return nil, at, e
	}
	if at != 0 || len(a.Nodes) == 0 {
		t.Fatalf("%.80q: %v, %d", src, a, at)
	}
	parents := make([]int, len(a.Nodes))
	for n, x := range a.Nodes {
		for _, kid := range x.Kids {
			if kid < 0 || kid >= n {
				t.Fatalf("%.80q: kid %d of node %d", src, kid, n)
			}
			parents[kid]++
		}
	}
	for n, count := range parents {
		if n < len(parents)-1 && count != 1 || n == len(parents)-1 && count != 0 {
			t.Fatalf("%.80q: node %d is a kid of %d", src, n, count)
		}
	}
	if !sameNodes(laid(grown(a.Nodes)), a.Nodes) {
		t.Fatalf("%.80q: nodes not as they end: %v", src, a.Nodes)
	}
	return a.Nodes, at, e
}

// expr holds an expression against its tree; parentheses around it change nothing (P6.2).
func expr(t *testing.T, src, want string) {
	t.Helper()
	for _, s := range []string{src, "(" + src + ")", " ((\n" + src + ")//\n) "} {
		nodes, at, e := read(t, Expr, s)
		if e != api.OK {
			t.Errorf("%q: %d, %d", s, at, e)
		} else if got := shown(grown(nodes)); got != want {
			t.Errorf("%q: %s, not %s", s, got, want)
		}
	}
}

// program holds a program against its statements.
func program(t *testing.T, src string, want ...string) {
	t.Helper()
	nodes, at, e := read(t, Program, src)
	list := append([]string{"(program"}, want...)
	whole := strings.Join(list, " ") + ")"
	if e != api.OK {
		t.Errorf("%q: %d, %d", src, at, e)
	} else if got := shown(grown(nodes)); got != whole {
		t.Errorf("%q: %s, not %s", src, got, whole)
	}
}

// refuses holds a call against a wrong script's fault, whose place the first @ marks, which the script hasn't.
func refuses(t *testing.T, call func(string) (api.Ast, int, api.Errno), marked string, number api.Errno) {
	t.Helper()
	front, back, _ := strings.Cut(marked, "@")
	src, want := front+back, len(front)
	_, at, e := read(t, call, src)
	if at != want || e != number {
		t.Errorf("%.80q: %d, %d, not %d, %d", src, at, e, want, number)
	}
}

// places holds a script against the places of its nodes, in their order.
func places(t *testing.T, call func(string) (api.Ast, int, api.Errno), src string, want ...int) {
	t.Helper()
	nodes, at, e := read(t, call, src)
	var got []int
	for _, x := range nodes {
		got = append(got, x.At)
	}
	if e != api.OK || !slices.Equal(got, want) {
		t.Errorf("%q: %v, %d, %d, not %v", src, got, at, e, want)
	}
}

// P6.1: the chapter's examples.
func TestExamples(t *testing.T) {
	a, _, _ := Expr("1+2*3")
	if !sameNodes(a.Nodes, []api.Ex{
		{Kind: api.ExNum, Num: 1, At: 0}, {Kind: api.ExNum, Num: 2, At: 2}, {Kind: api.ExNum, Num: 3, At: 4},
		{Kind: api.ExBinary, Op: "*", Kids: []int{1, 2}, At: 2}, {Kind: api.ExBinary, Op: "+", Kids: []int{0, 3}, At: 0},
	}) {
		t.Error(a)
	}
	a, _, _ = Expr("a.b[0](x)")
	if !sameNodes(a.Nodes, []api.Ex{
		{Kind: api.ExName, Op: "a"}, {Kind: api.ExMember, Op: "b", Kids: []int{0}}, {Kind: api.ExNum, At: 4},
		{Kind: api.ExIndex, Kids: []int{1, 2}}, {Kind: api.ExName, Op: "x", At: 7}, {Kind: api.ExCall, Kids: []int{3, 4}},
	}) {
		t.Error(a)
	}
	a, _, _ = Expr("a = b ? c : d")
	if !sameNodes(a.Nodes, []api.Ex{
		{Kind: api.ExName, Op: "a"}, {Kind: api.ExName, Op: "b", At: 4}, {Kind: api.ExName, Op: "c", At: 8}, {Kind: api.ExName, Op: "d", At: 12},
		{Kind: api.ExCond, Kids: []int{1, 2, 3}, At: 4}, {Kind: api.ExAssign, Op: "=", Kids: []int{0, 4}},
	}) {
		t.Error(a)
	}
	program(t, "var x = 1\nx++", "(var (decl x 1))", "(expr (update ++ x))")
	program(t, "a\n++b", "(expr a)", "(expr (update ++ 1 b))")
	program(t, "for (x in o) s += x;", "(forin x o (expr (assign += s x)))")
	refuses(t, Program, "@return 1", api.ErrSyntax)
	refuses(t, Program, "@break", api.ErrSyntax)
	for _, call := range []func(string) (api.Ast, int, api.Errno){Program, Expr} {
		refuses(t, call, "@1 = 2", api.ErrPlace)
		refuses(t, call, "a @b", api.ErrSyntax)
		refuses(t, call, "@new X", api.ErrSyntax)
		refuses(t, call, "@this", api.ErrSyntax)
		refuses(t, call, "f(@", api.ErrSyntax)
	}
}

// P6.4: the nodes and the kids of two answers share no memory, nor do the lists of one, their spare room included.
func TestNewMemory(t *testing.T) {
	const src = "var a = [1, 2, 3, f(4, 5, 6)], b = {x: 1, y: [2]}; function g(p, q, r) { return p ? q : r.s[0]; } switch (a) { case 1: b; c; d; default: e; }"
	want, _, _ := Program(src)
	for n := range want.Nodes {
		one, _, _ := Program(src)
		two, _, _ := Program(src)
		kids := one.Nodes[n].Kids
		full := kids[:cap(kids)]
		for i := range full {
			full[i] = -1
		}
		for i := range one.Nodes {
			if i != n && !slices.Equal(one.Nodes[i].Kids, want.Nodes[i].Kids) {
				t.Fatal(n, i, one.Nodes[i])
			}
		}
		nodes := one.Nodes[:cap(one.Nodes)]
		for i := range nodes {
			nodes[i] = api.Ex{Kind: -1}
		}
		if three, _, _ := Program(src); !sameNodes(two.Nodes, want.Nodes) || !sameNodes(three.Nodes, want.Nodes) {
			t.Fatal(n, two, three)
		}
	}
}
