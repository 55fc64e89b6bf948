package esparse

import (
	"strings"
	"testing"

	"pennant/api"
)

// full holds a call against how a script's tree is: beyond the limits, or not.
func full(t *testing.T, call func(string) (api.Ast, int, api.Errno), src string, beyond bool) {
	t.Helper()
	nodes, at, e := read(t, call, src)
	want := api.OK
	if beyond {
		want = api.ErrFull
	}
	if e != want || at != 0 {
		t.Errorf("%.60q: %d nodes, %d, %d, not %d", src, len(nodes), at, e, want)
	}
}

// counted is an array's expression of so many nodes in all.
func counted(nodes int) string {
	const each = 8
	rest := nodes - 1
	return "[" + strings.Repeat("!!!!!!!a,", rest/each) + strings.Repeat("(1),", rest%each) + "]"
}

// P6.1: how many nodes a tree may have; the root is one of them.
func TestNodes(t *testing.T) {
	for _, nodes := range []int{api.MaxAst - 1, api.MaxAst, api.MaxAst + 1, api.MaxAst + 2, api.MaxAst + 8} {
		beyond := nodes > api.MaxAst
		full(t, Expr, counted(nodes), beyond)
		full(t, Program, counted(nodes-2), beyond)
		full(t, Program, strings.Repeat(";", nodes-1), beyond)
		full(t, Program, "a"+strings.Repeat(";", nodes-2), beyond)
		full(t, Program, strings.Repeat("\n", 100)+strings.Repeat(";", nodes-1)+"//", beyond)
	}
	full(t, Program, strings.Repeat(";", api.MaxSource), true)
	full(t, Program, strings.Repeat(" ", api.MaxSource), false)
	full(t, Expr, strings.Repeat(" ", api.MaxSource-1)+"a", false)
}

// A nest is a form that may stand in itself: @ is where, and what stands there is in so many more nodes because of it. What is innermost has nodes below it, so many in one another.
type nest struct {
	form   string
	each   int
	inside string
	below  int
}

func expressionNests() []nest {
	var list []nest
	for _, form := range []string{"[@]", "[a,@]", "[@,a]", "{a:@}", "{a:b,c:@}", "f(@)", "f(a,@)", "f[@]", "- @", "!@", "typeof @", "a=@", "a+=@", "a?@:b", "a?b:@", "(@)?a:b", "(@)+a", "a+(@)", "a||(@)", "(@)&&a", "a in (@)", "(@).b", "(@)[b]", "(@)()", "@.b", "@[b]", "@(b)"} {
		list = append(list, nest{form, 1, "x", 0}, nest{form, 1, "x.y", 1}, nest{form, 1, "f(x,y)", 1})
	}
	return append(list, nest{"((@).b)++", 2, "x", 0}, nest{"++(@).b", 2, "x", 0}, nest{"delete (@).b", 2, "x", 0}, nest{"[[@]]", 2, "x", 0}, nest{"{a:[@]}", 2, "x", 0}, nest{"[{a:@}]", 2, "{}", 0}, nest{"function(){return @}", 3, "x", 0}, nest{"function(){x=@}", 4, "x", 0}, nest{"function(a){var a=@}", 4, "x", 0}, nest{"(function(){x=@})()", 5, "x", 0}, nest{"[@]", 1, "function(){}", 1}, nest{"[@]", 1, "function(a){}", 1}, nest{"[@]", 1, "{a:b}", 1})
}

func statementNests() []nest {
	var list []nest
	for _, form := range []string{"{@}", "{;@}", "if(a)@", "if(a);else @", "if(a)@\nelse;", "while(a)@", "for(;;)@", "for(var a in b)@"} {
		list = append(list, nest{form, 1, ";", 0}, nest{form, 1, "a", 1}, nest{form, 1, "var a=b", 2}, nest{form, 1, "for(a in b=c);", 2}, nest{form, 1, "while(a)break", 1})
	}
	for _, form := range []string{"try{@}finally{}", "try{}catch(e){@}", "try{}finally{@}", "switch(a){case b:@}", "switch(a){default:@}", "if(a){@}", "{if(a)@}", "function f(){@}", "function f(a,b){;@}"} {
		list = append(list, nest{form, 2, ";", 0}, nest{form, 2, "throw a", 1}, nest{form, 2, "var a=b", 2})
	}
	return append(list, nest{"x=function(){@}", 4, ";", 0}, nest{"if(a)throw function(){@}", 4, ";", 0})
}

// deep holds a form in itself, any number of times that goes, against the limit; around is what all stands in.
func deep(t *testing.T, call func(string) (api.Ast, int, api.Errno), n nest, around int) {
	t.Helper()
	src := n.inside
	for count := range api.MaxNest + 3 {
		full(t, call, src, around+n.each*count+n.below >= api.MaxNest)
		src = strings.Replace(n.form, "@", src, 1)
	}
}

// expressionStatement says whether an expression may be a statement as it stands.
func expressionStatement(src string) bool {
	return src[0] != '{' && !strings.HasPrefix(src, "function")
}

// P6.1: how many others a node may stand in; parentheses are none of them.
func TestNests(t *testing.T) {
	for _, n := range expressionNests() {
		deep(t, Expr, n, 0)
		if expressionStatement(n.form) && expressionStatement(n.inside) {
			deep(t, Program, n, 2)
		}
	}
	for _, n := range statementNests() {
		deep(t, Program, n, 1)
	}
	for _, op := range strings.Fields("|| && | ^ & == < in << + *") {
		for more := range 3 {
			operands := api.MaxNest - 1 + more
			full(t, Expr, strings.Repeat("a "+op+" ", operands-1)+"a", operands > api.MaxNest)
			full(t, Program, strings.Repeat("a "+op+" ", operands-3)+"a", operands > api.MaxNest)
		}
	}
	for _, count := range []int{api.MaxNest, api.MaxNest + 1, 1000, (api.MaxSource - 1) / 2} {
		full(t, Expr, strings.Repeat("(", count)+"a"+strings.Repeat(")", count), false)
		full(t, Program, strings.Repeat("(", count)+"a"+strings.Repeat(")", count), false)
	}
}

// P6.1: faults of other sorts come first, however full the tree is; no depth is too much to be read.
func TestFullComesLast(t *testing.T) {
	for _, front := range []string{"(", "[", "{a:", "- ", "!", "typeof ", "a=", "a?", "a?b:", "a[", "a(", "[a,", "a+(", "++", "delete ", "(function(){return ", "x=function f(a){return "} {
		for _, call := range []func(string) (api.Ast, int, api.Errno){Expr, Program} {
			src := "a=" + strings.Repeat(front, (api.MaxSource-3)/len(front))
			refuses(t, call, src+"@", api.ErrSyntax)
			refuses(t, call, src+"@:", api.ErrSyntax)
		}
	}
	for _, front := range []string{"{", "if(a)", "if(a);else ", "while(a)", "for(;;)", "for(var a in b)", "try{", "try{}catch(e){", "switch(a){case b:", "function f(){"} {
		src := strings.Repeat(front, (api.MaxSource-1)/len(front))
		refuses(t, Program, src+"@", api.ErrSyntax)
		refuses(t, Program, src+"@:", api.ErrSyntax)
	}
	for _, src := range []string{"@)", "@return", "@break", "{@function f(){}}", "a @b"} {
		refuses(t, Program, strings.Repeat(";", api.MaxAst)+src, api.ErrSyntax)
		refuses(t, Program, strings.Repeat("if(a)", api.MaxNest)+src, api.ErrSyntax)
	}
	refuses(t, Program, strings.Repeat(";", api.MaxAst)+"@1=2", api.ErrPlace)
	refuses(t, Expr, strings.Repeat("[", 100)+"@1=2", api.ErrPlace)
	refuses(t, Expr, strings.Repeat("!", 100)+"a @b", api.ErrSyntax)
	refuses(t, Expr, "@"+strings.Repeat("!", 100)+"a", api.ErrFull)
	refuses(t, Expr, "@ // a\n "+strings.Repeat("!", api.MaxSource-10)+"a", api.ErrFull)
}
