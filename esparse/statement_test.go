package esparse

import (
	"testing"

	"pennant/api"
)

// P6.1: a program of nothing, and how statements follow one another.
func TestPrograms(t *testing.T) {
	for _, src := range []string{"", " ", "\n", "// x", "/* */"} {
		program(t, src)
		places(t, Program, src, 0)
	}
	program(t, ";", "(empty)")
	program(t, ";;", "(empty)", "(empty)")
	program(t, "a", "(expr a)")
	program(t, "a;", "(expr a)")
	program(t, "a;;", "(expr a)", "(empty)")
	program(t, "a;b", "(expr a)", "(expr b)")
	program(t, "{}", "(block)")
	program(t, "{}{}", "(block)", "(block)")
	program(t, "{a}", "(block (expr a))")
	program(t, "{a;}", "(block (expr a))")
	program(t, "{;}", "(block (empty))")
	program(t, "{{a}b}c", "(block (block (expr a)) (expr b))", "(expr c)")
	program(t, "{}a", "(block)", "(expr a)")
	program(t, "{}+a", "(block)", "(expr (un + a))")
	program(t, "{}(a)", "(block)", "(expr a)")
	program(t, "{}[a]", "(block)", "(expr (array a))")
	program(t, "({})", "(expr (object))")
	program(t, "({a:1}).a", "(expr (member a (object 'a' 1)))")
	program(t, "[{}]", "(expr (array (object)))")
	program(t, "(function(){})()", "(expr (call (func (block))))")
	program(t, "(function f(){})", "(expr (func f (block)))")
	program(t, "!function(){}()", "(expr (un ! (call (func (block)))))")
	program(t, "functions", "(expr functions)")
	program(t, "'use strict'; 1", "(expr 'use strict')", "(expr 1)")
}

// P6.1: the ; that may be left out: ahead of }, at the end, and where a line ended; what goes on on the next line goes on.
func TestLeftOut(t *testing.T) {
	for src, want := range map[string]string{
		"a": "(expr a)", "var a": "(var (decl a))", "var a=1": "(var (decl a 1))", "throw a": "(throw a)", "a=b": "(expr (assign = a b))", "a++": "(expr (update ++ a))",
	} {
		program(t, src, want)
		program(t, src+";", want)
		program(t, src+" ;", want)
		program(t, src+"\n;", want)
		program(t, "{"+src+"}", "(block "+want+")")
		program(t, "{"+src+"\n}", "(block "+want+")")
		program(t, "{"+src+";}", "(block "+want+")")
		program(t, src+"\nx", want, "(expr x)")
		program(t, src+"/*\n*/x", want, "(expr x)")
		program(t, src+"//\n1", want, "(expr 1)")
		program(t, src+"\u2028'x'", want, "(expr 'x')")
		program(t, src+"\r{}", want, "(block)")
		program(t, src+"\nif(x);", want, "(if x (empty))")
		program(t, src+"\nvar x", want, "(var (decl x))")
		program(t, src+"\n!x", want, "(expr (un ! x))")
		program(t, src+"\nfunction x(){}", want, "(def x (block))")
		program(t, src+"\n++x", want, "(expr (update ++ 1 x))")
		program(t, src+"\n--\nx", want, "(expr (update -- 1 x))")
		program(t, "if(x)"+src+"\nelse y", "(if x "+want+" (expr y))")
		program(t, "if(x)"+src+";else y", "(if x "+want+" (expr y))")
	}
	for src, want := range map[string]string{
		"return": "(return)", "return a": "(return a)", "break": "(break)", "continue": "(continue)",
	} {
		around := func(s string) string { return "(expr (func (block (while x " + s + "))))" }
		program(t, "(function(){while(x)"+src+"})", around(want))
		program(t, "(function(){while(x)"+src+";})", around(want))
		program(t, "(function(){while(x)"+src+"\n;})", around(want))
		program(t, "(function(){while(x){"+src+"}})", around("(block "+want+")"))
		program(t, "(function(){while(x){"+src+"\ny}})", around("(block "+want+" (expr y))"))
		program(t, "(function(){while(x){"+src+"\n++y}})", around("(block "+want+" (expr (update ++ 1 y)))"))
		program(t, "(function(){while(x){"+src+"\n{}}})", around("(block "+want+" (block))"))
	}
	program(t, "a\n(b)", "(expr (call a b))")
	program(t, "a\n[b]", "(expr (index a b))")
	program(t, "a\n.b", "(expr (member b a))")
	program(t, "a\n+b", "(expr (bin + a b))")
	program(t, "a\n-\nb", "(expr (bin - a b))")
	program(t, "a\n/b/c", "(expr (bin / (bin / a b) c))")
	program(t, "a\nin b", "(expr (bin in a b))")
	program(t, "a\n=b", "(expr (assign = a b))")
	program(t, "a\n?b\n:c", "(expr (cond a b c))")
	program(t, "a=b\n(c)", "(expr (assign = a (call b c)))")
	program(t, "var a\n=b", "(var (decl a b))")
	program(t, "var a\n,b", "(var (decl a) (decl b))")
	program(t, "var a\n(b)", "(var (decl a))", "(expr b)")
	program(t, "var a\n[b]", "(var (decl a))", "(expr (array b))")
	program(t, "var a\n+b", "(var (decl a))", "(expr (un + b))")
	program(t, "var a=b\n(c)", "(var (decl a (call b c)))")
	program(t, "a++\n(b)", "(expr (update ++ a))", "(expr b)")
	program(t, "a++\n[b]", "(expr (update ++ a))", "(expr (array b))")
	program(t, "a++\n+b", "(expr (bin + (update ++ a) b))")
	program(t, "a\n++\nb", "(expr a)", "(expr (update ++ 1 b))")
	program(t, "a\n++b\n++\nc", "(expr a)", "(expr (update ++ 1 b))", "(expr (update ++ 1 c))")
	program(t, "throw a\n(b)", "(throw (call a b))")
	program(t, "(function(){return\n(a)})", "(expr (func (block (return) (expr a))))")
	program(t, "(function(){return\na})", "(expr (func (block (return) (expr a))))")
	program(t, "(function(){return/*\n*/a})", "(expr (func (block (return) (expr a))))")
	program(t, "(function(){return(\na)})", "(expr (func (block (return a))))")
	program(t, "(function(){return a\n+b})", "(expr (func (block (return (bin + a b)))))")
	program(t, "(function(){return{}})", "(expr (func (block (return (object)))))")
	program(t, "(function(){return function(){}})", "(expr (func (block (return (func (block))))))")
	program(t, "(function(){return;a})", "(expr (func (block (return) (expr a))))")
	program(t, "throw(\na)", "(throw a)")
	program(t, "throw {}", "(throw (object))")
	program(t, "throw function(){}", "(throw (func (block)))")
}

// P6.1: var, if, while, for, of both sorts.
func TestLoops(t *testing.T) {
	for src, want := range map[string]string{
		"var a": "(var (decl a))", "var a,b": "(var (decl a) (decl b))", "var a=1,b,c=a": "(var (decl a 1) (decl b) (decl c a))", "var a=b=c": "(var (decl a (assign = b c)))", "var a=b?c:d,e": "(var (decl a (cond b c d)) (decl e))", "var a=1 in b": "(var (decl a (bin in 1 b)))", "var a,a": "(var (decl a) (decl a))", "var\na\n=\n1": "(var (decl a 1))", "var of": "(var (decl of))", "var a=function(){},b": "(var (decl a (func (block))) (decl b))",
		"if(a)b": "(if a (expr b))", "if(a);": "(if a (empty))", "if(a){}": "(if a (block))", "if(a)b;else c": "(if a (expr b) (expr c))", "if(a){}else{}": "(if a (block) (block))", "if(a){}else c": "(if a (block) (expr c))", "if(a);else;": "(if a (empty) (empty))", "if(a)if(b)c;else d": "(if a (if b (expr c) (expr d)))", "if(a)if(b)c;else d;else e": "(if a (if b (expr c) (expr d)) (expr e))", "if(a)b;else if(c)d;else e": "(if a (expr b) (if c (expr d) (expr e)))", "if(a){if(b)c}else d": "(if a (block (if b (expr c))) (expr d))", "if(a=b)var c": "(if (assign = a b) (var (decl c)))", "if(a)while(b)if(c)d;else e": "(if a (while b (if c (expr d) (expr e))))", "if\n(\na\n)\nb\nelse\nc": "(if a (expr b) (expr c))",
		"while(a)b": "(while a (expr b))", "while(a);": "(while a (empty))", "while(a){}": "(while a (block))", "while(a=b)break": "(while (assign = a b) (break))", "while(a){b;continue}": "(while a (block (expr b) (continue)))", "while(a)while(b)break": "(while a (while b (break)))", "while(a)if(b)break;else continue": "(while a (if b (break) (continue)))", "while\n(a)\nb": "(while a (expr b))",
		"for(;;)a": "(for (empty) (empty) (empty) (expr a))", "for(a;b;c)d": "(for (expr a) b c (expr d))", "for(var a;;);": "(for (var (decl a)) (empty) (empty) (empty))", "for(var a=0,b=1;a<b;a++){}": "(for (var (decl a 0) (decl b 1)) (bin < a b) (update ++ a) (block))", "for(a=0;;a++)break": "(for (expr (assign = a 0)) (empty) (update ++ a) (break))", "for(;a;){continue}": "(for (empty) a (empty) (block (continue)))", "for(;a=b;c=d);": "(for (empty) (assign = a b) (assign = c d) (empty))", "for({};;);": "(for (expr (object)) (empty) (empty) (empty))", "for(function(){};;);": "(for (expr (func (block))) (empty) (empty) (empty))", "for(\n;\n;\n)\na": "(for (empty) (empty) (empty) (expr a))", "for(a\n;b\n;c\n)d": "(for (expr a) b c (expr d))",
		"for(a in b)c": "(forin a b (expr c))", "for(var a in b)c": "(forin a 1 b (expr c))", "for(a in b);": "(forin a b (empty))", "for(a in b){break}": "(forin a b (block (break)))", "for(a in b)continue": "(forin a b (continue))", "for(a in b in c);": "(forin a (bin in b c) (empty))", "for(a in b=c);": "(forin a (assign = b c) (empty))", "for(var a in b?c:d);": "(forin a 1 (cond b c d) (empty))", "for(a in{});": "(forin a (object) (empty))", "for(var\na\nin\nb)\nc": "(forin a 1 b (expr c))", "for(a in function(){});": "(forin a (func (block)) (empty))", "for(of in b);": "(forin of b (empty))",
		"for((a)in b;;);": "(for (expr (bin in a b)) (empty) (empty) (empty))", "for((a in b);;);": "(for (expr (bin in a b)) (empty) (empty) (empty))", "for(a.b in c;;);": "(for (expr (bin in (member b a) c)) (empty) (empty) (empty))", "for(1 in a;;);": "(for (expr (bin in 1 a)) (empty) (empty) (empty))", "for('a'in b;;);": "(for (expr (bin in 'a' b)) (empty) (empty) (empty))", "for(var a=b in c;;);": "(for (var (decl a (bin in b c))) (empty) (empty) (empty))", "for(a=b in c;;);": "(for (expr (assign = a (bin in b c))) (empty) (empty) (empty))", "for(;a in b;);": "(for (empty) (bin in a b) (empty) (empty))", "for(var a,b=c in d;;);": "(for (var (decl a) (decl b (bin in c d))) (empty) (empty) (empty))", "for(null in a;;);": "(for (expr (bin in #null a)) (empty) (empty) (empty))",
	} {
		program(t, src, want)
		program(t, "{"+src+"}", "(block "+want+")")
		program(t, "x;"+src+"\n;", append([]string{"(expr x)", want}, rest(src)...)...)
		expr(t, "function(){"+src+"}", "(func (block "+want+"))")
	}
}

// rest is what a ; on the next line is behind a statement that needs none.
func rest(src string) []string {
	if last := src[len(src)-1]; last == ';' || last == '}' {
		return []string{"(empty)"}
	}
	return nil
}

// P6.1: try, switch, functions.
func TestTriesSwitchesFunctions(t *testing.T) {
	for src, want := range map[string]string{
		"try{}catch(e){}": "(try e 1 (block) (block))", "try{}finally{}": "(try 2 (block) (block))", "try{}catch(e){}finally{}": "(try e 3 (block) (block) (block))", "try{a}catch(b){c}finally{d}": "(try b 3 (block (expr a)) (block (expr c)) (block (expr d)))", "try\n{}\ncatch\n(\ne\n)\n{}\nfinally\n{}": "(try e 3 (block) (block) (block))", "try{try{}finally{}}catch(e){}": "(try e 1 (block (try 2 (block) (block))) (block))",
		"switch(a){}": "(switch a)", "switch(a){case b:}": "(switch a (case b))", "switch(a){default:}": "(switch a (case 1))", "switch(a){case b:c;d}": "(switch a (case b (expr c) (expr d)))", "switch(a){case 1:case 2:b;break;default:c}": "(switch a (case 1) (case 2 (expr b) (break)) (case 1 (expr c)))", "switch(a){default:b\ncase c:d}": "(switch a (case 1 (expr b)) (case c (expr d)))", "switch(a=b){case c=d:{}}": "(switch (assign = a b) (case (assign = c d) (block)))", "switch(a){case b?c:d:e}": "(switch a (case (cond b c d) (expr e)))", "switch(a){case{}:[]}": "(switch a (case (object) (expr (array))))", "switch(a){case b:switch(c){default:}default:}": "(switch a (case b (switch c (case 1))) (case 1))", "switch(a){case b:var c}": "(switch a (case b (var (decl c))))", "switch\n(a)\n{\ncase\nb\n:\nc\n}": "(switch a (case b (expr c)))", "switch(a){case b:;}": "(switch a (case b (empty)))", "switch(a){case function(){}:}": "(switch a (case (func (block))))",
		"function f(){}": "(def f (block))", "function f(a){}": "(def f a (block))", "function f(a,b,c){d}": "(def f a b c (block (expr d)))", "function f(a,a){}": "(def f a a (block))", "function f(){function g(){}}": "(def f (block (def g (block))))", "function f(){return}": "(def f (block (return)))", "function\nf\n(\na\n,\nb\n)\n{\n}": "(def f a b (block))", "function f(){if(a)return b;while(c)return}": "(def f (block (if a (return b)) (while c (return))))",
	} {
		program(t, src, want)
		program(t, src+src, want, want)
		program(t, src+"x", want, "(expr x)")
		program(t, src+";", want, "(empty)")
		expr(t, "function(){"+src+"}", "(func (block "+want+"))")
	}
}

// P6.1: what stands where: return in a function, break in loops and switches, continue in loops, functions in a program or a body itself.
func TestWhatMayStandWhere(t *testing.T) {
	for src, want := range map[string]string{
		"while(a)break": "(while a (break))", "while(a)continue": "(while a (continue))", "for(;;)break": "(for (empty) (empty) (empty) (break))", "for(;;)continue": "(for (empty) (empty) (empty) (continue))", "for(a in b)break": "(forin a b (break))", "for(var a in b)continue": "(forin a 1 b (continue))",
		"switch(a){case b:break}": "(switch a (case b (break)))", "switch(a){default:break}": "(switch a (case 1 (break)))", "while(a)switch(b){case c:continue}": "(while a (switch b (case c (continue))))", "while(a){if(b){try{break}catch(e){continue}finally{break}}}": "(while a (block (if b (block (try e 3 (block (break)) (block (continue)) (block (break)))))))", "switch(a){case b:while(c)continue}": "(switch a (case b (while c (continue))))", "switch(a){case b:{if(c)break}}": "(switch a (case b (block (if c (break)))))", "switch(a){case b:while(c);break}": "(switch a (case b (while c (empty)) (break)))",
		"(function(){while(a)return})": "(expr (func (block (while a (return)))))", "(function(){{if(a){try{return}finally{}}}})": "(expr (func (block (block (if a (block (try 2 (block (return)) (block))))))))", "(function(){switch(a){case b:return c}})": "(expr (func (block (switch a (case b (return c))))))", "while(function(){return})break": "(while (func (block (return))) (break))", "(function(){return function(){return}})": "(expr (func (block (return (func (block (return)))))))", "while(a){(function(){while(b)break});break}": "(while a (block (expr (func (block (while b (break))))) (break)))", "(function(){function f(){return}return})": "(expr (func (block (def f (block (return))) (return))))",
		"while(a)(function(){function f(){}})": "(while a (expr (func (block (def f (block))))))", "{(function(){function f(){}})}": "(block (expr (func (block (def f (block))))))", "{a=function f(){}}": "(block (expr (assign = a (func f (block)))))",
	} {
		program(t, src, want)
	}
}

// P6.1: statements' places.
func TestPlacesOfStatements(t *testing.T) {
	places(t, Program, " a ; b", 1, 1, 5, 5, 0)
	places(t, Program, " (a)+b", 2, 5, 2, 1, 0)
	places(t, Program, "\n ;", 2, 0)
	places(t, Program, " {a}", 2, 2, 1, 0)
	places(t, Program, " var a, b = c", 5, 12, 8, 1, 0)
	places(t, Program, " if (a) b; else c", 5, 8, 8, 16, 16, 1, 0)
	places(t, Program, " while ((a)) ;", 9, 13, 1, 0)
	places(t, Program, " for (;;) ;", 6, 7, 8, 10, 1, 0)
	places(t, Program, " for ( ; ; ) ;", 7, 9, 11, 13, 1, 0)
	places(t, Program, " for ((a); b; c) ;", 7, 6, 11, 14, 17, 1, 0)
	places(t, Program, " for (var a; ; ) ;", 10, 6, 13, 15, 17, 1, 0)
	places(t, Program, " for (a in b) ;", 11, 14, 1, 0)
	places(t, Program, " for (var a in (b)) ;", 16, 20, 1, 0)
	places(t, Program, " throw (a)", 8, 1, 0)
	places(t, Program, " try {} catch (e) { } finally {}", 5, 18, 30, 1, 0)
	places(t, Program, " switch (a) { case b: c; default: ; }", 9, 19, 22, 22, 14, 34, 25, 1, 0)
	places(t, Program, " function f(a) { return a; }", 12, 24, 17, 15, 1, 0)
	places(t, Program, " while (a) { break ; continue }", 8, 13, 21, 11, 1, 0)
	places(t, Program, "function f() { return\n}", 15, 13, 0, 0)
	places(t, Program, "'é';a", 0, 0, 5, 5, 0)
}

// P6.1: statements are no expressions.
func TestStatementsAreNoExpressions(t *testing.T) {
	refuses(t, Expr, "@;", api.ErrSyntax)
	refuses(t, Expr, "a@;", api.ErrSyntax)
	refuses(t, Expr, "@var a", api.ErrSyntax)
	refuses(t, Expr, "{a@}", api.ErrSyntax)
	refuses(t, Expr, "{a@;}", api.ErrSyntax)
	refuses(t, Expr, "a\n@b", api.ErrSyntax)
	refuses(t, Expr, "a@,b", api.ErrSyntax)
	refuses(t, Expr, "@if(a)b", api.ErrSyntax)
	refuses(t, Expr, "@", api.ErrSyntax)
	refuses(t, Expr, " // a@", api.ErrSyntax)
}
