package esprint

import (
	"math"
	"slices"
	"strings"
	"testing"

	"pennant/api"
	"pennant/esparse"
)

func array(kids ...*tree) *tree { return node(api.ExArray, "", kids...) }

func block(kids ...*tree) *tree { return node(api.StBlock, "", kids...) }

func program(kids ...*tree) *tree { return node(api.StProgram, "", kids...) }

func sum(a, b *tree) *tree { return node(api.ExBinary, "+", a, b) }

func alone(x *tree) *tree { return node(api.StExpr, "", x) }

func empty() *tree { return node(api.StEmpty, "") }

func variable(op string, kids ...*tree) *tree { return node(api.StDecl, op, kids...) }

// filled is a tree in which the Op of each node that has @ there is another one.
func filled(x *tree, with string) *tree {
	out := *x
	out.ex.Op = strings.ReplaceAll(x.ex.Op, "@", with)
	out.kids = nil
	for _, kid := range x.kids {
		out.kids = append(out.kids, filled(kid, with))
	}
	return &out
}

// bordered holds a tree that no script says against its text, where @ is a name: it is too long just where the text is.
func bordered(t *testing.T, x *tree, want string) {
	t.Helper()
	rest := api.MaxSource - len(want) + 1
	for more := -3; more <= 3; more++ {
		number := api.ErrArg
		if more > 0 {
			number = api.ErrLong
		}
		a := laid(filled(x, strings.Repeat("x", rest+more)))
		if s, e := print(t, a); e != number {
			t.Errorf("%q and %d: %q, %d, not %d", want, more, brief(s), e, number)
		}
	}
	short := laid(filled(x, "x"))
	refuses(t, short, api.ErrArg)
	if s := secondText(short); s != strings.Replace(want, "@", "x", 1) {
		t.Errorf("%q by the second writer, not %q", s, want)
	}
}

// P7.1: a kid of a sort that doesn't belong where it is has its own text there.
func TestKidsOfOtherSorts(t *testing.T) {
	pad, a, b := name("@"), name("a"), name("b")
	stop := node(api.StBreak, "")
	for _, c := range []struct {
		x    *tree
		want string
	}{
		{array(empty(), pad), "[;\n, @]"},
		{array(pad, variable("a"), variable("b", a)), "[@, a, b = a]"},
		{array(block(pad)), "[{\n@}\n]"},
		{array(program(pad, a), program()), "[@a, ]"},
		{array(numbered(api.StCase, "", 0, pad, empty()), numbered(api.StCase, "", 1, empty())), "[case @:\n;\n, default:\n;\n]"},
		{array(numbered(api.StCase, "", 2, a, pad)), "[case a:\n@]"},
		{sum(empty(), pad), ";\n + @"},
		{sum(pad, alone(b)), "@ + b;\n"},
		{sum(node(api.StVar, "", pad), block()), "var @;\n + {\n}\n"},
		{sum(pad, variable("b", a)), "@ + b = a"},
		{node(api.ExLogic, "@", stop, stop), "break;\n @ break;\n"},
		{node(api.ExAssign, "=", stop, alone(pad)), "break;\n = @;\n"},
		{node(api.ExMember, "@", alone(a)), "a;\n.@"},
		{node(api.ExMember, "@", variable("a")), "a.@"},
		{node(api.ExIndex, "", stop, alone(pad)), "break;\n[@;\n]"},
		{node(api.ExCall, "", stop, alone(pad), block()), "break;\n(@;\n, {\n}\n)"},
		{node(api.ExUnary, "@", alone(a)), "@a;\n"},
		{node(api.ExUnary, "@", sum(a, b)), "@(a + b)"},
		{array(pad, node(api.ExUnary, "delete", stop), node(api.ExUnary, "typeof", stop), node(api.ExUnary, "void", stop), node(api.ExUnary, "++", a)), "[@, delete break;\n, typeof break;\n, voidbreak;\n, ++a]"},
		{array(pad, numbered(api.ExUpdate, "typeof", 1, stop), numbered(api.ExUpdate, "delete", 0, stop), numbered(api.ExUpdate, "++", 2, a), numbered(api.ExUpdate, "--", -1, sum(a, b))), "[@, typeofbreak;\n, break;\ndelete, a++, (a + b)--]"},
		{node(api.ExCond, "", stop, stop, alone(pad)), "break;\n ? break;\n : @;\n"},
		{node(api.ExObject, "", text("a"), stop, text("b"), pad), "{\"a\": break;\n, \"b\": @}"},
		{node(api.ExFunc, "@", number(1), block(), sum(a, b), a), "function @(1, {\n}\n, a + b) a"},
		{node(api.ExFunc, "", pad, empty()), "function (@) ;"},
		{node(api.ExFunc, "", number(1), pad, block(empty())), "function (1, @) {\n;\n}"},
		{node(api.ExFunc, "", alone(pad)), "function () @;"},
		{node(api.ExFunc, "", pad, program()), "function (@) "},
		{node(api.ExFunc, "", pad, node(api.ExFunc, "", empty())), "function (@) function () ;"},
		{node(api.ExFunc, "", pad, node(api.StFunc, "f", alone(a))), "function (@) function f() a;"},
		{node(api.ExFunc, "", pad, variable("b")), "function (@) b"},
		{sum(node(api.ExFunc, "f", alone(pad)), a), "(function f() @;) + a"},
		{program(pad), "@"},
		{program(pad, a, stop), "@abreak;\n"},
		{program(variable("@", a), a), "@ = aa"},
		{program(block(pad), program(empty())), "{\n@}\n;\n"},
		{program(alone(empty()), pad), ";\n;\n@"},
		{program(alone(block()), pad), "({\n}\n);\n@"},
		{program(alone(node(api.StFunc, "@", block()))), "(function @() {\n}\n);\n"},
		{program(alone(alone(pad))), "@;\n;\n"},
		{program(alone(node(api.ExObject, "")), alone(variable("function@"))), "({});\n(function@);\n"},
		{program(node(api.StVar, "", pad, a, empty())), "var @, a, ;\n;\n"},
		{program(node(api.StVar, "", variable("a", stop), pad)), "var a = break;\n, @;\n"},
		{program(node(api.StIf, "", stop, pad)), "if (break;\n) @"},
		{program(node(api.StIf, "", stop, a, pad)), "if (break;\n) aelse @"},
		{program(node(api.StWhile, "", stop, pad)), "while (break;\n) @"},
		{program(node(api.StFor, "", a, stop, alone(b), pad)), "for (a; break;\n; b;\n) @"},
		{program(node(api.StFor, "", stop, empty(), node(api.StVar, "", pad), a)), "for (break;\n; ; var @;\n) a"},
		{program(node(api.StFor, "", alone(stop), block(), a, pad)), "for ((break;\n); {\n}\n; a) @"},
		{program(node(api.StFor, "", alone(alone(pad)), a, a, empty())), "for ((@;\n); a; a) ;\n"},
		{program(node(api.StFor, "", node(api.StVar, "", stop), a, a, pad)), "for (var break;\n; a; a) @"},
		{program(node(api.StFor, "", empty(), empty(), empty(), sum(pad, a))), "for (; ; ) @ + a"},
		{program(node(api.StFor, "", sum(a, b), sum(a, b), sum(a, pad), empty())), "for (a + b; a + b; a + @) ;\n"},
		{program(sum(pad, a), block(sum(a, b)), node(api.StIf, "", a, sum(a, b), sum(b, a)), node(api.StWhile, "", a, sum(b, b)), node(api.StForIn, "a", a, sum(a, a))), "@ + a{\na + b}\nif (a) a + belse b + awhile (a) b + bfor (a in a) a + a"},
		{program(numbered(api.StTry, "a", 3, sum(pad, a), sum(a, b), sum(b, b)), numbered(api.StTry, "", 2, sum(a, a), sum(b, a))), "try @ + acatch (a) a + bfinally b + btry a + afinally b + a"},
		{program(node(api.StSwitch, "", a, sum(pad, b)), node(api.StFunc, "f", sum(a, a), sum(b, b)), node(api.StCase, "", a, sum(a, b)), node(api.StVar, "", sum(b, a))), "switch (a) {\n@ + b}\nfunction f(a + a) b + bcase a:\na + bvar b + a;\n"},
		{program(node(api.StForIn, "@", stop, a)), "for (@ in break;\n) a"},
		{program(numbered(api.StForIn, "@", 1, stop, a)), "for (var @ in break;\n) a"},
		{program(numbered(api.StForIn, "@", 2, a, stop)), "for (@ in a) break;\n"},
		{program(node(api.StReturn, ""), node(api.StReturn, "", stop), pad), "return;\nreturn break;\n;\n@"},
		{program(node(api.StThrow, "", stop), pad, node(api.StContinue, "")), "throw break;\n;\n@continue;\n"},
		{program(numbered(api.StTry, "@", 1, a, b)), "try acatch (@) b"},
		{program(numbered(api.StTry, "a", 2, a, pad)), "try afinally @"},
		{program(numbered(api.StTry, "@", 3, empty(), stop, b)), "try ;\ncatch (@) break;\nfinally b"},
		{program(node(api.StSwitch, "", stop, pad, stop)), "switch (break;\n) {\n@break;\n}\n"},
		{program(numbered(api.StCase, "", 0, stop, pad)), "case break;\n:\n@"},
		{program(numbered(api.StCase, "", 1, pad)), "default:\n@"},
		{program(node(api.StFunc, "@", stop, sum(a, b), a)), "function @(break;\n, a + b) a"},
		{program(node(api.StFunc, "", pad)), "function () @"},
	} {
		bordered(t, c.x, c.want)
	}
}

// somewhere holds an expression against its error wherever it stands.
func somewhere(t *testing.T, x *tree, want api.Errno) {
	t.Helper()
	for _, y := range []*tree{x, array(x), sum(x, name("b")), sum(name("b"), x), program(alone(x)), program(node(api.StVar, "", variable("b", x))), node(api.ExFunc, "", block(node(api.StReturn, "", x)))} {
		refuses(t, laid(y), want)
	}
}

// P7.1: expressions that have shape, and that no script says; right ones stand beside them.
func TestWrongExpressions(t *testing.T) {
	a, b := name("a"), name("b")
	for _, op := range []string{"", "if", "true", "1", "1a", "a b", " a", "a ", "a\n", "a//", "(a)", "a.b", "a+b", "é", "a\x00", "\x00a", "'a'", "a;", "\xff", "function", "this", "{}", "NaN ", "a,b", "/**/a"} {
		somewhere(t, name(op), api.ErrArg)
		if op != "true" {
			somewhere(t, node(api.ExConst, op), api.ErrArg)
		}
		somewhere(t, node(api.ExUnary, op, a), api.ErrArg)
		somewhere(t, numbered(api.ExUpdate, op, 1, a), api.ErrArg)
		somewhere(t, node(api.ExBinary, op, a, b), api.ErrArg)
		somewhere(t, node(api.ExLogic, op, a, b), api.ErrArg)
		somewhere(t, node(api.ExAssign, op, a, b), api.ErrArg)
		if op != "" {
			somewhere(t, node(api.ExFunc, op, block()), api.ErrArg)
		}
		if !slices.Contains([]string{"if", "true", "function", "this"}, op) {
			somewhere(t, node(api.ExMember, op, a), api.ErrArg)
		}
	}
	for _, x := range []*tree{
		node(api.ExUnary, "++", a), node(api.ExUnary, "--", a), node(api.ExUnary, "void", a), node(api.ExUnary, "- ", a), node(api.ExUnary, "-+", a), node(api.ExUnary, "delete", a), node(api.ExUnary, "delete", sum(a, b)), node(api.ExUnary, "delete", number(1)), node(api.ExUnary, "typeof ", a),
		node(api.ExUpdate, "-", a), numbered(api.ExUpdate, "-", 1, a), numbered(api.ExUpdate, "++", 2, a), numbered(api.ExUpdate, "++", math.NaN(), a), numbered(api.ExUpdate, "++", math.Copysign(0, -1), a), node(api.ExUpdate, "++", number(1)), numbered(api.ExUpdate, "--", 1, sum(a, b)), node(api.ExUpdate, "++", node(api.ExCall, "", a)), node(api.ExUpdate, ".b", a), node(api.ExUpdate, "()", a),
		node(api.ExBinary, "&&", a, b), node(api.ExBinary, "||", a, b), node(api.ExBinary, "=", a, b), node(api.ExBinary, ",", a, b), node(api.ExBinary, "instanceof", a, b), node(api.ExBinary, ".", a, b), node(api.ExBinary, "+ ", a, b), node(api.ExBinary, "+ b +", a, b), node(api.ExLogic, "+", a, b), node(api.ExLogic, "??", a, b), node(api.ExLogic, "|", a, b),
		node(api.ExAssign, "==", a, b), node(api.ExAssign, "<<=", a, b), node(api.ExAssign, "+", a, b), node(api.ExAssign, "=", number(1), b), node(api.ExAssign, "=", sum(a, b), b), node(api.ExAssign, "=", node(api.ExCall, "", a), b), node(api.ExAssign, "=", array(a), b), node(api.ExAssign, "=", node(api.ExConst, "true"), b),
		node(api.ExConst, "undefined"), node(api.ExConst, "1"), node(api.ExFunc, "", number(1), block()), node(api.ExFunc, "", name("if"), block()), node(api.ExFunc, "", block(), a), node(api.ExFunc, "", a), node(api.ExFunc, "", empty()), node(api.ExFunc, "", sum(a, b), block()), node(api.ExFunc, "f", text("a"), block()),
		node(api.ExFunc, "", block(node(api.StBreak, ""))), node(api.ExFunc, "", block(block(node(api.StFunc, "f", block())))), node(api.ExFunc, "", block(node(api.StFunc, "", block()))),
	} {
		somewhere(t, x, api.ErrArg)
	}
	for _, x := range []*tree{
		a, number(1), text("a"), node(api.ExConst, "null"), array(), node(api.ExObject, ""), node(api.ExFunc, "", a, block()), node(api.ExMember, "if", a), node(api.ExIndex, "", a, b), node(api.ExCall, "", a), node(api.ExUnary, "-", a), node(api.ExUnary, "typeof", a), node(api.ExUnary, "delete", node(api.ExMember, "b", a)), numbered(api.ExUpdate, "++", 1, a), node(api.ExUpdate, "--", a), node(api.ExBinary, "in", a, b), node(api.ExLogic, "||", a, b), node(api.ExCond, "", a, b, a), node(api.ExAssign, "+=", a, b),
	} {
		somewhere(t, x, api.OK)
	}
}

// P7.1: statements that have shape, and that no script says; right ones stand beside them.
func TestWrongStatements(t *testing.T) {
	a, one := name("a"), number(1)
	words := []string{"", "if", "1", "a b", "é", "a ", "true"}
	wrong := []*tree{
		a, variable("a"), program(), node(api.StCase, "", one), numbered(api.StCase, "", 1),
		node(api.StReturn, ""), node(api.StReturn, "", a), node(api.StBreak, ""), node(api.StContinue, ""), block(node(api.StBreak, "")), block(node(api.StFunc, "f", block())),
		alone(empty()), alone(node(api.StThrow, "", a)), node(api.StVar, "", a), node(api.StVar, "", empty()), node(api.StVar, "", variable("a", empty())), block(a), block(program(empty())),
		node(api.StIf, "", a, node(api.StFunc, "f", block())), node(api.StIf, "", empty(), empty()), node(api.StIf, "", a, a), node(api.StIf, "", a, node(api.StIf, "", a, empty()), empty()), node(api.StIf, "", a, node(api.StWhile, "", a, node(api.StIf, "", a, empty())), empty()),
		node(api.StWhile, "", empty(), empty()), node(api.StWhile, "", a, a), node(api.StFor, "", a, empty(), empty(), empty()), node(api.StFor, "", empty(), alone(a), empty(), empty()), node(api.StFor, "", empty(), empty(), node(api.StVar, "", variable("a")), empty()), node(api.StFor, "", empty(), empty(), empty(), a), node(api.StFor, "", block(), empty(), empty(), empty()),
		numbered(api.StForIn, "a", 2, a, empty()), node(api.StForIn, "a.b", a, empty()), node(api.StForIn, "var a", a, empty()), node(api.StForIn, "a", empty(), empty()), numbered(api.StForIn, "a", 0.5, a, empty()),
		node(api.StThrow, "", empty()), numbered(api.StTry, "a", 2, block(), block()), numbered(api.StTry, "", 1, block(), block()), numbered(api.StTry, "a", 1, empty(), block()), numbered(api.StTry, "a", 1, block(), empty()), numbered(api.StTry, "a", 3, block(), block(), empty()),
		node(api.StSwitch, "", a, empty()), node(api.StSwitch, "", empty()), node(api.StSwitch, "", a, numbered(api.StCase, "", 1), numbered(api.StCase, "", 1)), node(api.StSwitch, "", a, numbered(api.StCase, "", 2, a)), node(api.StSwitch, "", a, node(api.StCase, "")), node(api.StSwitch, "", a, node(api.StCase, "", a, node(api.StContinue, ""))), node(api.StSwitch, "", a, node(api.StCase, "", empty())), node(api.StSwitch, "", a, numbered(api.StCase, "", 1, a)),
		node(api.StFunc, "f", one, block()), node(api.StFunc, "f", block(), a), node(api.StFunc, "f", a), node(api.StFunc, "f", empty()), node(api.StFunc, "f", block(node(api.StBreak, ""))),
	}
	for _, op := range words {
		wrong = append(wrong, node(api.StVar, "", variable(op)), node(api.StForIn, op, a, empty()), numbered(api.StForIn, op, 1, a, empty()), numbered(api.StTry, op, 1, block(), block()), numbered(api.StTry, op, 3, block(), block(), block()), node(api.StFunc, op, block()), node(api.StFunc, "f", name(op), block()))
	}
	for _, x := range wrong {
		refuses(t, laid(program(x)), api.ErrArg)
		refuses(t, laid(program(empty(), x, empty())), api.ErrArg)
	}
	for _, x := range []*tree{
		alone(a), node(api.StVar, "", variable("a", one), variable("a")), block(block()), empty(), node(api.StIf, "", a, empty()), node(api.StIf, "", a, node(api.StIf, "", a, empty(), empty()), empty()), node(api.StIf, "", a, block(node(api.StIf, "", a, empty())), empty()), node(api.StIf, "", a, empty(), node(api.StIf, "", a, empty())), node(api.StWhile, "", a, node(api.StBreak, "")), node(api.StFor, "", alone(a), a, a, node(api.StContinue, "")), node(api.StFor, "", empty(), empty(), empty(), empty()), numbered(api.StForIn, "a", 1, a, empty()), node(api.StForIn, "a", a, empty()), node(api.StThrow, "", a), numbered(api.StTry, "a", 1, block(), block()), numbered(api.StTry, "", 2, block(), block()), numbered(api.StTry, "a", 3, block(), block(), block()), node(api.StSwitch, "", a, numbered(api.StCase, "", 1), node(api.StCase, "", one, node(api.StBreak, ""))), node(api.StFunc, "f", a, block(node(api.StReturn, ""))),
	} {
		refuses(t, laid(program(x)), api.OK)
		refuses(t, laid(program(empty(), x, empty())), api.OK)
	}
}

// P7.1, P7.3: what a kind doesn't name has to be zero; no two trees have one text.
func TestFieldsOfNoAccount(t *testing.T) {
	const src = "var a = 1, b = 'c'; function f(g) { return [h, {i: j}, true]; } for (k in l.m[n](o)) { if (-p) continue; else break } for (;;) try { } catch (q) { } finally { } switch (r) { case s: default: throw t ? u++ : v = w + x && y } x = function () { }; while (z) ;"
	a := programOf(t, src)
	kinds := map[int]bool{}
	for n, x := range a.Nodes {
		kinds[x.Kind] = true
		change := func(y api.Ex) api.Ast {
			nodes := slices.Clone(a.Nodes)
			nodes[n] = y
			return api.Ast{Nodes: nodes}
		}
		if x.Op == "" && x.Kind != api.ExFunc {
			y := x
			y.Op = "a"
			refuses(t, change(y), api.ErrArg)
		}
		for _, num := range odd() {
			y := x
			y.Num = num
			if x.Kind == api.ExNum && num > 0 && num <= 1e21 || x.Kind == api.ExUpdate && num == 1 || x.Kind == api.StForIn && num == 1 || x.Num == num {
				continue
			}
			refuses(t, change(y), api.ErrArg)
		}
	}
	if len(kinds) != 34 {
		t.Error(len(kinds), kinds)
	}
}

// P7.1: a tree is a list of nodes in their order; in any other one it is no script's.
func TestOrderOfNodes(t *testing.T) {
	a, _, _ := esparse.Expr("a * b + c * d")
	prints(t, a, "(a * b) + (c * d)")
	for _, c := range []struct {
		order []int // which of them stands there
		e     api.Errno
	}{
		{[]int{0, 1, 2, 3, 4, 5, 6}, api.OK}, {[]int{0, 1, 3, 2, 4, 5, 6}, api.ErrArg}, {[]int{3, 0, 1, 2, 4, 5, 6}, api.ErrArg}, {[]int{0, 1, 3, 4, 2, 5, 6}, api.ErrArg}, {[]int{3, 4, 0, 1, 2, 5, 6}, api.ErrArg},
	} {
		place := make([]int, len(c.order))
		for n, from := range c.order {
			place[from] = n
		}
		var nodes []api.Ex
		for _, from := range c.order {
			x := a.Nodes[from]
			x.Kids = slices.Clone(x.Kids)
			for i, kid := range x.Kids {
				x.Kids[i] = place[kid]
			}
			nodes = append(nodes, x)
		}
		refuses(t, api.Ast{Nodes: nodes}, c.e)
	}
}
