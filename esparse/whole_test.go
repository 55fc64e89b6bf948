package esparse

import (
	"maps"
	"math/rand"
	"strings"
	"testing"

	"pennant/api"
)

// An outcome is what a script brings: nodes, or a fault and its place.
type outcome struct {
	nodes []api.Ex
	at    int
	e     api.Errno
}

// A pair holds both calls against the rules.
type pair struct {
	rules map[string]part
}

func newPair() pair {
	rules := expressionRules()
	maps.Copy(rules, statementRules())
	return pair{rules}
}

// hold tells how many of the two calls read the script, and the place up to which nothing is wrong with it.
func (p pair) hold(t *testing.T, src string) (int, int) {
	t.Helper()
	right, reached := 0, 0
	for root, call := range map[string]func(string) (api.Ast, int, api.Errno){"E": Expr, "program": Program} {
		nodes, at, e := read(t, call, src)
		want := follow(p.rules, root, src)
		if e != want.e || at != want.at || !sameNodes(nodes, want.nodes) {
			t.Fatalf("%s %q: %v, %d, %d, not %+v", root, src, nodes, at, e, want)
		}
		if e == api.OK {
			right++
			at = len(src)
		}
		reached = max(reached, at)
	}
	return right, reached
}

// P6.1: all scripts of a few of these pieces; what is wrong ahead of the last piece needs no more of them.
func TestAllShortScripts(t *testing.T) {
	p := newPair()
	for _, set := range []struct {
		count  int
		pieces []string
	}{
		{5, []string{"a", "1", "+", "=", "++", "(", ")", "\n"}},
		{6, []string{"a", ".", "[", "]", ",", "-", "(", ")"}},
		{6, []string{"a", "{", "}", ":", ",", "1", "\n"}},
		{7, []string{"a", "?", ":", "=", "||", "delete ", "."}},
		{5, []string{"a", "in ", "typeof ", "!", "--", "*", "\n", "'\\u2b2b'", ";"}},
		{7, []string{"function ", "a", "(", ")", "{", "}", "return "}},
		{6, []string{"for", "(", ";", ")", "var ", "a ", "in "}},
		{5, []string{"if", "(a)", "else ", ";", "a ", "\n", "{", "}"}},
		{6, []string{"try", "catch", "finally", "{", "}", "(a)", ";"}},
		{7, []string{"switch(a)", "case ", "default", ":", "a ", "{", "}", "break "}},
		{5, []string{"while(a)", "break ", "continue ", "throw ", "\n", "a", ";", "{", "}"}},
		{5, []string{"function f()", "function()", "{", "}", "return ", "\n", "(", ")", "a", ";"}},
	} {
		t.Run(set.pieces[0], func(t *testing.T) {
			t.Parallel()
			p.all(t, set.count, set.pieces)
		})
	}
}

func (p pair) all(t *testing.T, count int, pieces []string) {
	scripts := []string{""}
	for range count {
		var next []string
		for _, s := range scripts {
			for _, piece := range pieces {
				if _, reached := p.hold(t, s+piece); reached >= len(s) {
					next = append(next, s+piece)
				}
			}
		}
		scripts = next
	}
}

// pieces are lexemes, and what stands between them.
func pieces() []string {
	list := strings.Fields("{ } ( ) [ ] ; , . < > <= >= == != === !== + - * / % ++ -- << >> >>> & | ^ ! ~ && || ? : = += -= *= /= %= a b c 0 1.5 0x1F 'a' \"\" '\\u2b2b'")
	list = append(list, allWords()...)
	return append(list, "\n", "\n", "/* */", "//\n", "a", "b", "(", ")", "{", "}", ";", ";", "=", "in")
}

// P6.1: scripts by dice.
func TestScriptsByDice(t *testing.T) {
	p := newPair()
	dice := rand.New(rand.NewSource(1))
	list := pieces()
	for range 40000 {
		var src strings.Builder
		for range dice.Intn(12) {
			src.WriteString(list[dice.Intn(len(list))] + " ")
		}
		p.hold(t, src.String())
	}
}

// P6.1: any bytes by dice, alone and behind the beginning of a script.
func TestBytesByDice(t *testing.T) {
	p := newPair()
	dice := rand.New(rand.NewSource(2))
	const likely = "a1+-=()[]{};,.?:'\"! \n"
	const ahead = `function f(a) { switch (a) { case 1: return {a: [1, "b"]}; } } x = `
	for range 20000 {
		b := make([]byte, dice.Intn(16))
		for i := range b {
			b[i] = byte(dice.Intn(256))
			if dice.Intn(2) == 0 {
				b[i] = likely[dice.Intn(len(likely))]
			}
		}
		p.hold(t, string(b))
		p.hold(t, ahead[:dice.Intn(len(ahead))]+string(b))
	}
}
