package esprint

import (
	"fmt"
	"math/rand"
	"slices"
	"strings"
	"testing"

	"pennant/api"
	"pennant/esparse"
)

// grammar tells of each part of a script what it may be; the first form is the shortest one. What is no part stands as it is.
func grammar() map[string][]string {
	return map[string][]string{
		"P": {"S", "S P", "F", "F P", "S S S"},
		"S": {";", "X ;", "X ;", "{ }", "{ S S }", "var V ;", "var V , V ;", "if ( A ) S", "if ( A ) S else S", "while ( A ) W", "for ( Q ; O ; O ) W", "for ( N in A ) W", "for ( var N in A ) W", "throw A ;", "try { S } catch ( N ) { S }", "try { S } finally { }", "try { } catch ( N ) { } finally { S }", "switch ( A ) { C D C }", "switch ( A ) { C }"},
		"W": {";", "S", "break ;", "{ S continue ; }", "if ( A ) break ; else W"},
		"C": {"", "case A : S", "case A : C case A : S break ;"},
		"D": {"", "default :", "default : S break ;"},
		"F": {"function N ( ) { }", "function N ( N , N ) { R }"},
		"R": {"return ;", "return A ;", "S R", "F R", "if ( A ) return A ;"},
		"Q": {"", "( A )", "var V", "var V , V", "N + U", "N = A", "- L ++"},
		"O": {"", "A"},
		"V": {"N", "N = A"},
		"X": {"N", "N = A", "N ++", "N [ A ] --", "functional", "N ( A )", "( A )", "functions = A", "- B", "a * B", "( B ) . c = A", "[ A ] [ A ] ++", "( { } )", "( function ( ) { R } )"},
		"A": {"N", "B ? A : A", "B", "B", "L = A", "L += A", "L %= A"},
		"B": {"U", "U", "U + B", "U * B", "U - U - U", "U || B", "U && B", "U == U", "U in U", "U >>> B", "U | U ^ U & U", "U < U"},
		"U": {"K", "K", "- U", "! U", "typeof U", "delete M", "++ L", "-- L", "L ++", "L --", "~ U"},
		"L": {"N", "M"},
		"M": {"N . N", "K . N", "K [ A ]", "K . if"},
		"K": {"N", "1", "N", "1.5 ", "0x10", "1e21", "'t'", "'\\u2028\\'{\"\\\\'", "\"é\\0\"", "true", "null", "( A )", "[ ]", "[ A , A ]", "{ }", "{ a : A }", "{ 'b c' : A , 12 : A , if : A , }", "function ( ) { R }", "function N ( N ) { }", "K ( )", "K ( A , A )", "M"},
		"N": {"a", "b", "c", "function1", "$", "_x"},
	}
}

// A teller tells scripts by dice.
type teller struct {
	rules map[string][]string
	dice  *rand.Rand
}

// list are the lexemes of a form whose parts stand in so many others at most.
func (g teller) list(form string, depth int) []string {
	var out []string
	for _, part := range strings.Fields(form) {
		forms, ok := g.rules[part]
		switch {
		case !ok:
			out = append(out, part)
		case depth <= 0:
			out = append(out, g.list(forms[0], depth-1)...)
		default:
			out = append(out, g.list(forms[g.dice.Intn(len(forms))], depth-1)...)
		}
	}
	return out
}

// joined is a script of lexemes with any gaps that end no line, so that ++ and what stands behind a return stay there.
func (g teller) joined(list []string) string {
	gaps := []string{" ", " ", "\t", " /* */ ", "  "}
	var out strings.Builder
	for _, x := range list {
		out.WriteString(x + gaps[g.dice.Intn(len(gaps))])
	}
	return out.String()
}

// loosened is a tree's script with parentheses around all that may have them.
func loosened(a api.Ast) string {
	return filler{a.Nodes, func(s string) string { return "( (" + s + ")) " }}.text(len(a.Nodes) - 1)
}

// thereAndBack holds what is said of a right script's tree, and tells its text, if it has one.
func thereAndBack(t *testing.T, read func(string) (api.Ast, int, api.Errno), src string) (string, bool) {
	t.Helper()
	a, at, e := read(src)
	if e == api.ErrFull {
		return "", false
	}
	if e != api.OK {
		t.Fatalf("%s: %d, %d", src, at, e)
	}
	want := secondText(a)
	s, e := print(t, a)
	if len(want) > api.MaxSource {
		if e != api.ErrLong {
			t.Fatalf("%s: %d", brief(src), e)
		}
		return "", false
	}
	if s != want || e != api.OK {
		t.Fatalf("%s: %q, %d, not %q", src, s, e, want)
	}
	for _, other := range []string{s, loosened(a)} {
		b, at, e := read(other)
		if e == api.ErrLong {
			continue
		}
		if e != api.OK || !alike(a.Nodes, b.Nodes) {
			t.Fatalf("%s: %s is read otherwise: %d, %d", src, other, at, e)
		}
		prints(t, b, s)
	}
	return s, true
}

// P7.2, P7.3: scripts by dice: what they say has a text that is read as it, whatever gaps and parentheses they have.
func TestScriptsByDice(t *testing.T) {
	t.Parallel()
	g := teller{grammar(), rand.New(rand.NewSource(2))}
	right, kinds := 0, map[int]bool{}
	texts := map[string]string{}
	for n := range 12000 {
		root, read := "P", esparse.Program
		if n%3 == 0 {
			root, read = "A", esparse.Expr
		}
		list := g.list(root, 3+g.dice.Intn(8))
		if len(list) > 1500 {
			continue
		}
		src := g.joined(list)
		if len(src) > api.MaxSource {
			continue
		}
		s, ok := thereAndBack(t, read, src)
		if !ok {
			continue
		}
		a, _, _ := read(src)
		for _, x := range a.Nodes {
			kinds[x.Kind] = true
		}
		right++
		whole := shown(a)
		if first, ok := texts[root+s]; ok && first != whole {
			t.Fatalf("%s: two trees", s)
		}
		texts[root+s] = whole
	}
	if right < 9000 || len(kinds) != 34 || len(texts) < 5000 {
		t.Error(right, len(kinds), len(texts))
	}
}

// shown tells a tree but for places.
func shown(a api.Ast) string {
	b := slices.Clone(a.Nodes)
	for n := range b {
		b[n].At = 0
	}
	return fmt.Sprint(b)
}

// P7.1: right trees of which something is changed answer as the second writer says.
func TestBentTrees(t *testing.T) {
	t.Parallel()
	g := teller{grammar(), rand.New(rand.NewSource(3))}
	ops := []string{"", "a", "if", "+", "++", "-", "=", "&&", "delete", "typeof", "true", "\x00a", "function", "in", "{"}
	numbers := append(odd(), 0, 0, 1)
	answers := map[api.Errno]int{}
	for n := range 40000 {
		root, read := "P", esparse.Program
		if n%3 == 0 {
			root, read = "A", esparse.Expr
		}
		a, _, e := read(g.joined(g.list(root, 2+g.dice.Intn(4))))
		if e != api.OK || len(a.Nodes) > 200 {
			continue
		}
		for range 1 + g.dice.Intn(2) {
			x := &a.Nodes[g.dice.Intn(len(a.Nodes))]
			y := a.Nodes[g.dice.Intn(len(a.Nodes))]
			switch g.dice.Intn(6) {
			case 0:
				x.Op = ops[g.dice.Intn(len(ops))]
			case 1:
				x.Num = numbers[g.dice.Intn(len(numbers))]
			case 2:
				x.Kind = 1 + g.dice.Intn(37)
			case 3:
				x.Kind, x.Op, x.Num = y.Kind, y.Op, y.Num
			case 4:
				x.Op = y.Op
			case 5:
				if len(x.Kids) > 0 {
					x.Kids[g.dice.Intn(len(x.Kids))] += g.dice.Intn(3) - 1
				}
			}
		}
		s, e := print(t, a)
		if want, number := second(a); s != want || e != number {
			t.Fatalf("%s: %q, %d, not %q, %d", brief(a), s, e, want, number)
		}
		answers[e]++
		bentLong(t, g, a)
	}
	if answers[api.OK] < 3000 || answers[api.ErrArg] < 20000 {
		t.Error(answers)
	}
}

// bentLong makes a tree's text about as long as it may be.
func bentLong(t *testing.T, g teller, a api.Ast) {
	t.Helper()
	if !secondShape(a) {
		return
	}
	for more := range 2 {
		x := &a.Nodes[g.dice.Intn(len(a.Nodes))]
		if x.Kind == api.ExText {
			continue
		}
		x.Op = ""
		x.Op = strings.Repeat("a", max(0, api.MaxSource+more-len(secondText(a))))
		s, e := print(t, a)
		if want, number := second(a); s != want || e != number {
			t.Fatalf("%s: %q, %d, not %q, %d", brief(a), brief(s), e, brief(want), number)
		}
	}
}
