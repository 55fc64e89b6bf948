package esprint

import (
	"strings"
	"testing"

	"pennant/api"
	"pennant/esparse"
)

// tight are expressions that stand without parentheses beside an operator, loose are those that don't; each is its own text.
func tight() []string {
	return []string{"1", "1.5", `"a"`, "a", "true", "false", "null", "[]", "[a]", "a.b", "a[b]", "a()", "a(b).c"}
}

func loose() []string {
	return []string{"{}", `{"a": b}`, "function () {\n}", "function f(a) {\n}", "-a", "!a", "typeof a", "delete a.b", "++a", "--a", "a++", "a--", "a + b", "a in b", "a || b", "a && b", "a ? b : c", "a = b", "a += b"}
}

// P7.1: what has no parts, or is in brackets.
func TestPrimaries(t *testing.T) {
	for src, want := range map[string]string{
		"a": "a", "$_1": "$_1", "undefined": "undefined", "functional": "functional", "true": "true", "false": "false", "null": "null", "((a))": "a",
		"[]": "[]", "[a]": "[a]", "[a,]": "[a]", "[a,b,c]": "[a, b, c]", "[[],[a,[b]]]": "[[], [a, [b]]]", "[a=b,c?d:e,f+g]": "[a = b, c ? d : e, f + g]",
		"{}": "{}", "{a:1}": `{"a": 1}`, "{a:1,}": `{"a": 1}`, "{a:1,b:2,c:3}": `{"a": 1, "b": 2, "c": 3}`, "{if:{},'é b':[c]}": `{"if": {}, "\u00e9 b": [c]}`, "{0x10:a,1.50:b,'':c}": `{"16": a, "1.5": b, "": c}`, "{a:b=c,d:e?f:g,h:i+j}": `{"a": b = c, "d": e ? f : g, "h": i + j}`,
		"function(){}": "function () {\n}", "function f(){}": "function f() {\n}", "function(a){}": "function (a) {\n}", "function f(a,b,a){}": "function f(a, b, a) {\n}", "function(){return}": "function () {\nreturn;\n}", "function(){return function(){}}": "function () {\nreturn function () {\n};\n}", "function(){function g(a){}}": "function () {\nfunction g(a) {\n}\n}", "function(){a;;b}": "function () {\na;\n;\nb;\n}",
	} {
		expression(t, src, want)
	}
	for _, src := range append(tight(), loose()...) {
		expression(t, src, src)
	}
}

// P7.1: what stands beside operators.
func TestOperands(t *testing.T) {
	operand := map[string]string{}
	for _, src := range tight() {
		operand[src] = src
	}
	for _, src := range loose() {
		operand[src] = "(" + src + ")"
	}
	for src, want := range operand {
		for _, op := range strings.Fields("|| && | ^ & == != === !== < > <= >= in << >> >>> + - * / %") {
			expression(t, "("+src+")"+op+" a", want+" "+op+" a")
			expression(t, "a "+op+"("+src+")", "a "+op+" "+want)
		}
		for _, op := range []string{"-", "+", "!", "~"} {
			expression(t, op+"("+src+")", op+want)
		}
		expression(t, "typeof("+src+")", "typeof "+want)
		expression(t, "("+src+")?a:b", want+" ? a : b")
		expression(t, "a?("+src+"):b", "a ? "+src+" : b")
		expression(t, "a?b:("+src+")", "a ? b : "+src)
		for _, op := range strings.Fields("= += -= *= /= %=") {
			expression(t, "a"+op+"("+src+")", "a "+op+" "+src)
		}
		base := want
		if src == "1" || src == "1.5" {
			base = "(" + src + ")"
		}
		expression(t, "("+src+").b", base+".b")
		expression(t, "("+src+")[b]", base+"[b]")
		expression(t, "("+src+")()", base+"()")
		expression(t, "a["+src+"]", "a["+src+"]")
		expression(t, "a(("+src+"),b,("+src+"))", "a("+src+", b, "+src+")")
	}
}

// P7.1: places that are written, deleted or counted.
func TestWrittenPlaces(t *testing.T) {
	for _, place := range []string{"a", "a.b", "a[b]", "(1).b", "(a + b).c", "a().b", "(function () {\n}).a", "a.if"} {
		for _, op := range []string{"++", "--"} {
			expression(t, op+"("+place+")", op+place)
			expression(t, "("+place+")"+op, place+op)
			expression(t, "- "+op+place, "-("+op+place+")")
			expression(t, "a+ "+op+place, "a + ("+op+place+")")
		}
		expression(t, "("+place+")=c", place+" = c")
		expression(t, place+"=d=c", place+" = d = c")
		if place != "a" {
			expression(t, "delete("+place+")", "delete "+place)
			expression(t, "delete(delete("+place+")).c", "delete (delete "+place+").c")
		}
	}
}

// P7.1, P7.3: an order of operators is told by parentheses, whether the script has them or not.
func TestOrderOfOperators(t *testing.T) {
	for src, want := range map[string]string{
		"a+b+c": "(a + b) + c", "a+(b+c)": "a + (b + c)", "a*b+c": "(a * b) + c", "a+b*c": "a + (b * c)", "a||b&&c": "a || (b && c)", "a==b<c": "a == (b < c)", "a?b:c?d:e": "a ? b : c ? d : e", "(a?b:c)?d:e": "(a ? b : c) ? d : e", "a=b?c:d": "a = b ? c : d", "(a=b)?c:d": "(a = b) ? c : d", "a?b=c:d=e": "a ? b = c : d = e", "a+=b-=c": "a += b -= c",
		"-a*b": "(-a) * b", "-(a*b)": "-(a * b)", "- -a": "-(-a)", "+-+a": "+(-(+a))", "typeof typeof a": "typeof (typeof a)", "typeof -a": "typeof (-a)", "!typeof a": "!(typeof a)", "a- -b": "a - (-b)", "-1": "-1", "- -1": "-(-1)", "-a++": "-(a++)", "a+++b": "(a++) + b", "a-- -b": "(a--) - b",
		"a.b.c": "a.b.c", "(a.b).c": "a.b.c", "a.b(c)[d](e,f).g": "a.b(c)[d](e, f).g", "a(b(c),d())": "a(b(c), d())", "-a.b": "-a.b", "(-a).b": "(-a).b", "'a'.b": `"a".b`, "[a].b": "[a].b", "null.a": "null.a", "{}.a": "({}).a", "function(){}()": "(function () {\n})()", "1..a": "(1).a", "1[0]": "(1)[0]", "1()": "(1)()", "a.typeof": "a.typeof", "a.function": "a.function",
	} {
		expression(t, src, want)
	}
}

// P7.3: scripts of one tree have one text, and those of two have two.
func TestOwnTexts(t *testing.T) {
	texts := map[string]string{}
	for _, same := range [][]string{
		{"a+b*c", "a + (b*c)", "(a)+((b))*(c)", "a/**/+\nb//\n*c", "(a+b*c)"},
		{"(a+b)*c", "((a)+b)*c"},
		{"a+b+c", "(a+b)+c"},
		{"a+(b+c)"},
		{"1", "1.0", "0x1", "10e-1", "(1)"},
		{"'1'", `"1"`, `'\u0031'`, `"\x31"`},
		{"'é'", `"\xe9"`, `'\u00E9'`},
		{"{a:1}", "{'a':1,}", `{"\u0061":(1)}`},
		{"{1:a}", "{'1':a}", "{1.0:a}"},
		{"[a]", "[a,]"},
		{"a.b", "(a).b", "a\n.\nb"},
		{"a[b]"},
		{"a['b']", `a["b"]`},
		{"function(a){return a}", "function(a){return a;}", "function\n(a)\n{\nreturn a\n}"},
		{"function a(){}"},
		{"-1"},
		{"0-1"},
		{"a=b=c", "a=(b=c)"},
		{"++a"},
		{"a++"},
		{"++a.b", "++(a.b)"},
	} {
		for _, src := range same {
			a, _, _ := esparse.Expr(src)
			s, e := print(t, a)
			if first, ok := texts[s]; e != api.OK || ok && first != same[0] {
				t.Errorf("%q: %q, %d, as %q", src, s, e, first)
			}
			texts[s] = same[0]
		}
	}
	if len(texts) != 21 {
		t.Error(texts)
	}
}
