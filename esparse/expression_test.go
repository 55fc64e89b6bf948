package esparse

import (
	"strings"
	"testing"
)

// allWords are those of layer 5.
func allWords() []string {
	return strings.Fields("break case catch class const continue debugger default delete do else enum export extends false finally for function if import in instanceof let new null return super switch this throw true try typeof var void while with yield")
}

// P6.1: what an expression begins with.
func TestPrimaries(t *testing.T) {
	for src, want := range map[string]string{
		"0": "0", "1.5": "1.5", "0x1F": "31", "1e3": "1000", ".5": "0.5", "1e400": "+Inf",
		"''": "''", "'a'": "'a'", `"é\n"`: "'é\n'", `'\u2b2b'`: "'\u2b2b'", "'in'": "'in'",
		"a": "a", "$_1": "$_1", "undefined": "undefined", "NaN": "NaN", "of": "of", "iff": "iff", "arguments": "arguments",
		"true": "#true", "false": "#false", "null": "#null",
		"[]": "(array)", "[a]": "(array a)", "[a,]": "(array a)", "[a,b]": "(array a b)", "[a,b,]": "(array a b)", "[[],[a]]": "(array (array) (array a))", "[a=b,c?d:e]": "(array (assign = a b) (cond c d e))",
		"{}": "(object)", "{a:1}": "(object 'a' 1)", "{a:1,}": "(object 'a' 1)", "{a:1,b:2}": "(object 'a' 1 'b' 2)", "{a:1,b:2,}": "(object 'a' 1 'b' 2)", "{a:a,a:a}": "(object 'a' a 'a' a)", "{a:{},b:[c]}": "(object 'a' (object) 'b' (array c))", "{a:b=c,d:e?f:g}": "(object 'a' (assign = b c) 'd' (cond e f g))",
		"{'':1}": "(object '' 1)", `{"é b":1}`: "(object 'é b' 1)", "{'a':'a'}": "(object 'a' 'a')", "{a:'b','c':d}": "(object 'a' 'b' 'c' d)",
		"{0:a}": "(object '0' a)", "{1.50:a}": "(object '1.5' a)", "{0x10:a}": "(object '16' a)", "{1e21:a}": "(object '1e+21' a)", "{.5:a}": "(object '0.5' a)", "{1e400:a}": "(object 'Infinity' a)", "{1e-7:a,}": "(object '1e-7' a)", "{10:a,'10':b}": "(object '10' a '10' b)",
		"{get:1}": "(object 'get' 1)", "{NaN:1}": "(object 'NaN' 1)",
		"function(){}": "(func (block))", "function f(){}": "(func f (block))", "function(a){}": "(func a (block))", "function f(a,b,a){}": "(func f a b a (block))", "function(){return}": "(func (block (return)))", "function(){return a}": "(func (block (return a)))", "function(){function f(){}}": "(func (block (def f (block))))", "function(){;}": "(func (block (empty)))",
	} {
		expr(t, src, want)
		expr(t, "["+src+"]", "(array "+want+")")
		expr(t, "a("+src+")", "(call a "+want+")")
	}
	for _, w := range allWords() {
		expr(t, "{"+w+":1}", "(object '"+w+"' 1)")
		expr(t, "a."+w, "(member "+w+" a)")
		expr(t, "a . "+w+".b", "(member b (member "+w+" a))")
	}
}

// P6.1: what stands behind a primary: any count of them, behind any primary, on later lines, too.
func TestPostfixes(t *testing.T) {
	for src, want := range map[string]string{
		"a": "a", "1 ": "1", "'a'": "'a'", "null": "#null", "[]": "(array)", "{}": "(object)", "function(){}": "(func (block))", "(a+b)": "(bin + a b)",
	} {
		expr(t, src+".b", "(member b "+want+")")
		expr(t, src+"[b]", "(index "+want+" b)")
		expr(t, src+"()", "(call "+want+")")
		expr(t, src+"(b)", "(call "+want+" b)")
		expr(t, src+"(b,c,d)", "(call "+want+" b c d)")
		expr(t, src+".b.c[d](e)().f", "(member f (call (call (index (member c (member b "+want+")) d) e)))")
		expr(t, src+"\n.\nb\n[\nc\n]\n(\nd\n,\ne\n)", "(call (index (member b "+want+") c) d e)")
	}
	expr(t, "a[b=c]", "(index a (assign = b c))")
	expr(t, "a(b=c,d?e:f)", "(call a (assign = b c) (cond d e f))")
	expr(t, "a[b[c]]", "(index a (index b c))")
	expr(t, "a(b(c),d())", "(call a (call b c) (call d))")
	expr(t, "1..a", "(member a 1)")
	expr(t, "'+'.a", "(member a '+')")
}

// P6.1: what stands ahead of an operand, and ++ and -- behind one.
func TestUnaries(t *testing.T) {
	for _, op := range strings.Fields("- + ! ~ typeof") {
		expr(t, op+" a", "(un "+op+" a)")
		expr(t, op+" 1", "(un "+op+" 1)")
		expr(t, op+" "+op+" a", "(un "+op+" (un "+op+" a))")
		expr(t, op+"\na", "(un "+op+" a)")
		expr(t, op+" a.b(c)", "(un "+op+" (call (member b a) c))")
		expr(t, op+" a++", "(un "+op+" (update ++ a))")
		expr(t, op+" a*b", "(bin * (un "+op+" a) b)")
		expr(t, "a*"+op+" b", "(bin * a (un "+op+" b))")
		expr(t, op+" a in b", "(bin in (un "+op+" a) b)")
		expr(t, "("+op+" a).b", "(member b (un "+op+" a))")
		expr(t, op+" function(){}", "(un "+op+" (func (block)))")
		expr(t, op+" delete a.b", "(un "+op+" (un delete (member b a)))")
		expr(t, op+" ++a", "(un "+op+" (update ++ 1 a))")
	}
	for src, want := range map[string]string{
		"delete a.b": "(un delete (member b a))", "delete a[b]": "(un delete (index a b))", "delete a().b": "(un delete (member b (call a)))", "delete (a.b)": "(un delete (member b a))", "delete((a[b]))": "(un delete (index a b))", "delete a.b.c": "(un delete (member c (member b a)))", "delete a.b+c": "(bin + (un delete (member b a)) c)", "delete\na.b": "(un delete (member b a))", "delete 1..a": "(un delete (member a 1))",
		"-+!~typeof a": "(un - (un + (un ! (un ~ (un typeof a)))))", "- -a": "(un - (un - a))", "+-+a": "(un + (un - (un + a)))", "!-a+b": "(bin + (un ! (un - a)) b)", "typeof(a)": "(un typeof a)", "typeof(a).b": "(un typeof (member b a))",
		"a- -b": "(bin - a (un - b))", "a-+b": "(bin - a (un + b))", "a+ ++b": "(bin + a (update ++ 1 b))", "a++ +b": "(bin + (update ++ a) b)", "a+++b": "(bin + (update ++ a) b)", "a--- -b": "(bin - (update -- a) (un - b))", "a- --b": "(bin - a (update -- 1 b))",
	} {
		expr(t, src, want)
	}
	for _, op := range []string{"++", "--"} {
		for _, place := range [][2]string{{"a", "a"}, {"a.b", "(member b a)"}, {"a[b]", "(index a b)"}, {"(a)", "a"}, {"((a.b))", "(member b a)"}, {"a().b", "(member b (call a))"}, {"a[0][1]", "(index (index a 0) 1)"}, {"'a'.b", "(member b 'a')"}} {
			expr(t, op+place[0], "(update "+op+" 1 "+place[1]+")")
			expr(t, op+"\n"+place[0], "(update "+op+" 1 "+place[1]+")")
			expr(t, place[0]+op, "(update "+op+" "+place[1]+")")
			expr(t, place[0]+" /* */ "+op, "(update "+op+" "+place[1]+")")
			expr(t, "- "+op+place[0], "(un - (update "+op+" 1 "+place[1]+"))")
			expr(t, "! "+place[0]+op, "(un ! (update "+op+" "+place[1]+"))")
			expr(t, place[0]+op+"*b", "(bin * (update "+op+" "+place[1]+") b)")
			expr(t, place[0]+op+"\n?b:c", "(cond (update "+op+" "+place[1]+") b c)")
		}
	}
}

// ranks are the chapter's operators between two operands, the looser ones first, with the labels of their nodes.
func ranks() [][]string {
	return [][]string{
		{"logic", "||"}, {"logic", "&&"}, {"bin", "|"}, {"bin", "^"}, {"bin", "&"}, {"bin", "==", "!=", "===", "!=="},
		{"bin", "<", ">", "<=", ">=", "in"}, {"bin", "<<", ">>", ">>>"}, {"bin", "+", "-"}, {"bin", "*", "/", "%"},
	}
}

// P6.1: any two operators between three operands: the tighter one first, of two of one level the left one.
func TestLevels(t *testing.T) {
	for i, one := range ranks() {
		for j, two := range ranks() {
			for _, p := range one[1:] {
				for _, q := range two[1:] {
					want := "(" + two[0] + " " + q + " (" + one[0] + " " + p + " a b) c)"
					if j > i {
						want = "(" + one[0] + " " + p + " a (" + two[0] + " " + q + " b c))"
					}
					expr(t, "a "+p+" b "+q+" c", want)
					expr(t, "a\n"+p+"\nb\n"+q+"\nc", want)
					expr(t, "(a "+p+" b) "+q+" c", "("+two[0]+" "+q+" ("+one[0]+" "+p+" a b) c)")
					expr(t, "a "+p+" (b "+q+" c)", "("+one[0]+" "+p+" a ("+two[0]+" "+q+" b c))")
				}
			}
		}
	}
	expr(t, "a||b&&c|d^e&f==g<h<<i+j*-k", "(logic || a (logic && b (bin | c (bin ^ d (bin & e (bin == f (bin < g (bin << h (bin + i (bin * j (un - k)))))))))))")
	expr(t, "-a*b+c<<d<e==f&g^h|i&&j||k", "(logic || (logic && (bin | (bin ^ (bin & (bin == (bin < (bin << (bin + (bin * (un - a) b) c) d) e) f) g) h) i) j) k)")
	expr(t, "a-b-c-d", "(bin - (bin - (bin - a b) c) d)")
	expr(t, "a-(b-c)-d", "(bin - (bin - a (bin - b c)) d)")
	expr(t, "a in b in c", "(bin in (bin in a b) c)")
	expr(t, "a in b+c in d", "(bin in (bin in a (bin + b c)) d)")
}

// P6.1: choices, and what is assigned.
func TestChoicesAndAssignments(t *testing.T) {
	for _, op := range strings.Fields("= += -= *= /= %=") {
		for _, place := range [][2]string{{"a", "a"}, {"a.b", "(member b a)"}, {"a[b]", "(index a b)"}, {"(a)", "a"}, {"((a[b]))", "(index a b)"}, {"a().in", "(member in (call a))"}, {"[].a", "(member a (array))"}} {
			expr(t, place[0]+op+"1", "(assign "+op+" "+place[1]+" 1)")
			expr(t, place[0]+op+"b=c", "(assign "+op+" "+place[1]+" (assign = b c))")
			expr(t, "x="+place[0]+op+"c", "(assign = x (assign "+op+" "+place[1]+" c))")
			expr(t, place[0]+"\n"+op+"\nb?c:d", "(assign "+op+" "+place[1]+" (cond b c d))")
			expr(t, "x?y:"+place[0]+op+"c", "(cond x y (assign "+op+" "+place[1]+" c))")
			expr(t, "x?"+place[0]+op+"c:y", "(cond x (assign "+op+" "+place[1]+" c) y)")
			expr(t, "x||("+place[0]+op+"c)", "(logic || x (assign "+op+" "+place[1]+" c))")
		}
	}
	for src, want := range map[string]string{
		"a?b:c": "(cond a b c)", "a?b:c?d:e": "(cond a b (cond c d e))", "a?b?c:d:e": "(cond a (cond b c d) e)", "a?b?c:d:e?f:g": "(cond a (cond b c d) (cond e f g))", "(a?b:c)?d:e": "(cond (cond a b c) d e)",
		"a||b?c||d:e||f": "(cond (logic || a b) (logic || c d) (logic || e f))", "a=b?c:d=e": "(assign = a (cond b c (assign = d e)))", "a=b=c=d": "(assign = a (assign = b (assign = c d)))", "(a=b)?c:d": "(cond (assign = a b) c d)",
		"a=function(){}": "(assign = a (func (block)))", "a={}": "(assign = a (object))", "a=[]": "(assign = a (array))", "a?{}:[]": "(cond a (object) (array))", "a\n?\nb\n:\nc": "(cond a b c)", "{}?{}:{}": "(cond (object) (object) (object))",
		"a ? {b:c} : d": "(cond a (object 'b' c) d)", "function(){}()": "(call (func (block)))", "a.b=c.d": "(assign = (member b a) (member d c))", "a=b+c": "(assign = a (bin + b c))",
	} {
		expr(t, src, want)
	}
}

// P6.1: an expression's places; those of nodes behind an operand are those of their first kid, parentheses left out.
func TestPlacesOfExpressions(t *testing.T) {
	places(t, Expr, " a", 1)
	places(t, Expr, "(a)", 1)
	places(t, Expr, " ( ( 1 ) ) ", 5)
	places(t, Expr, "/*é*/a", 6)
	places(t, Expr, "(a)+b", 1, 4, 1)
	places(t, Expr, "a+(b*c)", 0, 3, 5, 3, 0)
	places(t, Expr, "(a+b)*c", 1, 3, 1, 6, 1)
	places(t, Expr, "((a).b)[c]", 2, 2, 8, 2)
	places(t, Expr, "(a)(b)(c)", 1, 4, 1, 7, 1)
	places(t, Expr, "(a)++", 1, 1)
	places(t, Expr, "++(a)", 3, 0)
	places(t, Expr, " - (a)", 4, 1)
	places(t, Expr, "!typeof a", 8, 1, 0)
	places(t, Expr, "(!a)||b", 2, 1, 6, 1)
	places(t, Expr, "delete (a.b)", 8, 8, 0)
	places(t, Expr, "(a)?(b):(c)", 1, 5, 9, 1)
	places(t, Expr, "(a)=(b)", 1, 5, 1)
	places(t, Expr, " [a,b]", 2, 4, 1)
	places(t, Expr, "([])", 1)
	places(t, Expr, "(([a])[b])", 3, 2, 7, 2)
	places(t, Expr, " {a:1, 'b':2,3:(4)}", 2, 4, 7, 11, 13, 16, 1)
	places(t, Expr, "({})", 1)
	places(t, Expr, " function f(a, b) {a}", 12, 15, 19, 19, 18, 1)
	places(t, Expr, "(function () {})", 13, 1)
	places(t, Expr, "'é'+a", 0, 5, 0)
	places(t, Expr, "a\n.b", 0, 0)
}
