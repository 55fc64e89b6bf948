package esprint

import (
	"fmt"
	"math"
	"slices"
	"strings"
	"testing"

	"pennant/api"
	"pennant/esnum"
	"pennant/esparse"
	"pennant/utf"
)

// A tree is a node with all that is below it, as the tests make it.
type tree struct {
	ex   api.Ex
	kids []*tree
}

func node(kind int, op string, kids ...*tree) *tree {
	return &tree{ex: api.Ex{Kind: kind, Op: op}, kids: kids}
}

func numbered(kind int, op string, num float64, kids ...*tree) *tree {
	return &tree{ex: api.Ex{Kind: kind, Op: op, Num: num}, kids: kids}
}

func name(op string) *tree { return node(api.ExName, op) }

func number(x float64) *tree { return numbered(api.ExNum, "", x) }

func text(s string) *tree { return node(api.ExText, wide(s)) }

func wide(s string) string {
	w, _, _ := utf.Wide(s)
	return w
}

// laid is a tree's list of nodes, each behind all that is below it, the first kid first.
func laid(x *tree) api.Ast {
	var nodes []api.Ex
	var lay func(x *tree) int
	lay = func(x *tree) int {
		var kids []int
		for _, kid := range x.kids {
			kids = append(kids, lay(kid))
		}
		ex := x.ex
		ex.Kids = kids
		nodes = append(nodes, ex)
		return len(nodes) - 1
	}
	lay(x)
	return api.Ast{Nodes: nodes}
}

// parsed is what a script says: an expression, or else a program.
func parsed(t *testing.T, src string) api.Ast {
	t.Helper()
	a, _, e := esparse.Expr(src)
	if e == api.OK {
		return a
	}
	return programOf(t, src)
}

func programOf(t *testing.T, src string) api.Ast {
	t.Helper()
	a, at, e := esparse.Program(src)
	if e != api.OK {
		t.Fatalf("%.80q: %d, %d", src, at, e)
	}
	return a
}

// alike says whether two lists of nodes are the same but for places.
func alike(a, b []api.Ex) bool {
	return slices.EqualFunc(a, b, func(a, b api.Ex) bool {
		return a.Kind == b.Kind && a.Op == b.Op && math.Float64bits(a.Num) == math.Float64bits(b.Num) && slices.Equal(a.Kids, b.Kids)
	})
}

// brief is what a message says of something long.
func brief(x any) string {
	s := fmt.Sprintf("%+v", x)
	return s[:min(len(s), 300)]
}

// print calls Print, and looks at what holds of whatever it answers (P7.1, P7.3): of an error no text; else one that is read as the tree, and no longer than a script.
func print(t *testing.T, a api.Ast) (string, api.Errno) {
	t.Helper()
	s, e := Print(a)
	if e != api.OK {
		if s != "" || e != api.ErrArg && e != api.ErrLong {
			t.Fatalf("%s: %q, %d", brief(a), brief(s), e)
		}
		return s, e
	}
	read := esparse.Expr
	if a.Nodes[len(a.Nodes)-1].Kind == api.StProgram {
		read = esparse.Program
	}
	if b, _, e := read(s); e != api.OK || !alike(a.Nodes, b.Nodes) || len(s) > api.MaxSource {
		t.Fatalf("%s: %q, read as %s, %d", brief(a), brief(s), brief(b), e)
	}
	return s, e
}

// prints holds a tree against its text.
func prints(t *testing.T, a api.Ast, want string) {
	t.Helper()
	if s, e := print(t, a); s != want || e != api.OK {
		t.Errorf("%q, %d, not %q", brief(s), e, brief(want))
	}
}

// refuses holds a tree against its error.
func refuses(t *testing.T, a api.Ast, want api.Errno) {
	t.Helper()
	if s, e := print(t, a); e != want {
		t.Errorf("%s: %q, %d, not %d", brief(a), brief(s), e, want)
	}
}

// expression holds a script against its text: alone, in a statement, and in others where T stands.
func expression(t *testing.T, src, want string) {
	t.Helper()
	a, at, e := esparse.Expr(src)
	if e != api.OK {
		t.Fatalf("%q: %d, %d", src, at, e)
	}
	prints(t, a, want)
	for _, form := range []string{"[@]", "a = @", "a(@)", "a[@]", "{\"b\": @}"} {
		b, _, _ := esparse.Expr(strings.Replace(form, "@", "("+src+")", 1))
		prints(t, b, strings.Replace(form, "@", want, 1))
	}
	for _, form := range []string{"a = @;\n", "throw @;\n", "var a = @;\n", "if (@) ;\n", "while (@) ;\n", "for (a in @) ;\n", "for ((@); ; ) ;\n", "for (; @; ) ;\n", "for (; ; @) ;\n", "switch (@) {\n}\n", "switch (a) {\ncase @:\n}\n"} {
		b := programOf(t, strings.Replace(form, "@", "("+src+")", 1))
		prints(t, b, strings.Replace(form, "@", want, 1))
	}
}

// statement holds a script of statements against their text: alone, behind another, and in a block.
func statement(t *testing.T, src, want string) {
	t.Helper()
	prints(t, programOf(t, src), want)
	prints(t, programOf(t, "a;"+src), "a;\n"+want)
	prints(t, programOf(t, src+"\nb"), want+"b;\n")
	if strings.HasPrefix(want, "function ") {
		prints(t, programOf(t, "function a(){"+src+"}"), "function a() {\n"+want+"}\n")
		return
	}
	prints(t, programOf(t, "{"+src+"}"), "{\n"+want+"}\n")
}

// P7.1: the chapter's examples.
func TestExamples(t *testing.T) {
	expression(t, "1+2*-a", "1 + (2 * (-a))")
	expression(t, "(1).x", "(1).x")
	expression(t, `"é\n"`, `"\u00e9\u000a"`)
	statement(t, "if(a)b;else{}", "if (a) b;\nelse {\n}\n")
	statement(t, "for((x) in o;;);", "for ((x in o); ; ) ;\n")
	refuses(t, parsed(t, "1e400"), api.ErrArg)
}

// P7.1, P7.2: of the numbers that scripts say just the infinite ones have no text.
func TestNumbers(t *testing.T) {
	for src, want := range map[string]string{
		"0": "0", "0.0": "0", "1": "1", "1.50": "1.5", ".5": "0.5", "0x1F": "31", "1e3": "1000", "1e20": "100000000000000000000", "1e21": "1e+21", "123e-20": "1.23e-18", "0.000001": "0.000001", "1e-7": "1e-7", "5e-324": "5e-324", "1e-400": "0", "1.7976931348623157e308": "1.7976931348623157e+308", "4503599627370495.5": "4503599627370495.5",
	} {
		expression(t, src, want)
	}
	for _, src := range []string{"1e400", "-1e400", "[1,1e400]", "1.8e308", "1.7976931348623159e308", "{a:1e400}", "0x" + strings.Repeat("f", 256)} {
		refuses(t, parsed(t, src), api.ErrArg)
		refuses(t, programOf(t, "a="+src), api.ErrArg)
	}
	expression(t, "{1e400:a}", `{"Infinity": a}`)
	for _, x := range []float64{math.Inf(1), math.Inf(-1), math.NaN(), -1, -0.5, -5e-324, math.Copysign(0, -1)} {
		refuses(t, laid(number(x)), api.ErrArg)
		refuses(t, laid(node(api.ExArray, "", number(x), number(1))), api.ErrArg)
	}
	for _, x := range []float64{0, 5e-324, 1, math.Pi, math.MaxFloat64, 1 << 53} {
		prints(t, laid(number(x)), esnum.Text(x))
	}
}

// P7.1: each unit of a text, in the middle of others.
func TestTexts(t *testing.T) {
	for u := range 0x10000 {
		want := string(rune(u))
		if u < 32 || u > 126 || u == '"' || u == '\\' {
			digits := "0123456789abcdef"
			want = `\u` + string([]byte{digits[u>>12], digits[u>>8&15], digits[u>>4&15], digits[u&15]})
		}
		w := wide("a") + string([]byte{byte(u >> 8), byte(u)}) + wide("b")
		if s, e := Print(laid(node(api.ExText, w))); s != `"a`+want+`b"` || e != api.OK {
			t.Fatalf("%x: %q, %d", u, s, e)
		}
	}
	expression(t, "''", `""`)
	expression(t, `'\'"\\'`, `"'\u0022\u005c"`)
	expression(t, "'😀'", `"\ud83d\ude00"`)
	expression(t, `'\ud83d'`, `"\ud83d"`)
	expression(t, `"{function"`, `"{function"`)
	refuses(t, laid(node(api.ExText, wide("a")+"b")), api.ErrArg)
	refuses(t, laid(node(api.ExText, "a")), api.ErrArg)
}

// P7.4: what is handed in stays, its spare room too, and the text doesn't hang on it.
func TestNothingChangedOrKept(t *testing.T) {
	const src = "var a = [1, 2, 'b'], c = {d: 1}; ({}); function f(g, h) { for (;;) return function () { } } try { } catch (e) { } switch (a) { case 1: default: }"
	a, b := programOf(t, src), programOf(t, src)
	for n := range a.Nodes {
		kids := append(a.Nodes[n].Kids, -5, -6)
		a.Nodes[n].Kids = kids[:len(kids)-2]
	}
	nodes := append(a.Nodes, api.Ex{Kind: -7})
	a.Nodes = nodes[:len(nodes)-1]
	want, e := print(t, a)
	if e != api.OK {
		t.Fatal(e)
	}
	for n, x := range a.Nodes {
		if y := b.Nodes[n]; x.At != y.At || !alike([]api.Ex{x}, []api.Ex{y}) || !slices.Equal(x.Kids[len(x.Kids):len(x.Kids)+2], []int{-5, -6}) {
			t.Error(n, x, y)
		}
	}
	if nodes[len(nodes)-1].Kind != -7 {
		t.Error(nodes[len(nodes)-1])
	}
	first := strings.Clone(want)
	for n := range a.Nodes {
		clear(a.Nodes[n].Kids)
		a.Nodes[n] = api.Ex{}
	}
	if s, e := print(t, b); want != first || s != first || e != api.OK {
		t.Errorf("%q, %q, %d, not %q", want, s, e, first)
	}
}

// P7.1: places are of no account.
func TestPlaces(t *testing.T) {
	a := programOf(t, "if (a) b = 1; else { c(2) }")
	want, _ := print(t, a)
	for n := range a.Nodes {
		a.Nodes[n].At = 1000 - 7*n
	}
	prints(t, a, want)
}
