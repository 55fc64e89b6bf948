package esparse

import (
	"strings"
	"testing"

	"pennant/api"
)

// In these tests an @ marks a fault's place: no script has one, but in texts and remarks.

// wrong holds both calls against the fault of what should be an assignment, wherever one stands.
func wrong(t *testing.T, src string, number api.Errno) {
	t.Helper()
	for _, ahead := range []string{"", " ", "(", "[", "[a,", "a=", "a%=", "a?", "a?b:", "a[", "f(", "f(a,", "({a:", "(function(){return ", "(function(){var a="} {
		refuses(t, Expr, ahead+src, number)
		refuses(t, Program, "x="+ahead+src, number)
	}
	for _, ahead := range []string{"if(", "while(", "for(;", "for(;;", "for(a in ", "for(var a in ", "throw ", "switch(", "switch(a){case ", "var a=", "var a,b=", "if(a)b;else x=", "{x=", "try{}finally{x="} {
		refuses(t, Program, ahead+src, number)
	}
}

// P6.1: lexemes with which no expression begins, and scripts that end ahead of one.
func TestNoPrimaries(t *testing.T) {
	for _, w := range allWords() {
		if !strings.Contains(" true false null typeof delete function ", " "+w+" ") {
			wrong(t, "b+@"+w, api.ErrSyntax)
			wrong(t, "-@"+w+" b", api.ErrSyntax)
			refuses(t, Expr, "@"+w, api.ErrSyntax)
		}
	}
	for _, m := range strings.Fields("} ) ] ; , . < > <= >= == != === !== * % << >> >>> & | ^ && || ? : = += -= *= /= %=") {
		wrong(t, "b+ @"+m, api.ErrSyntax)
		wrong(t, "typeof @"+m+" b", api.ErrSyntax)
		refuses(t, Expr, "@"+m, api.ErrSyntax)
	}
	for _, op := range strings.Fields("|| && | ^ & == != === !== < > <= >= in << >> >>> + - * / % = += -= *= /= %= ?") {
		wrong(t, "b "+op+"@", api.ErrSyntax)
		wrong(t, "b "+op+" @", api.ErrSyntax)
		wrong(t, "b "+op+" @)", api.ErrSyntax)
		wrong(t, "b "+op+" @== c", api.ErrSyntax)
	}
	for _, src := range []string{"-", "!", "~", "typeof", "delete", "++", "--", "(", "[", "b[", "b(", "b.", "b?c:", "{", "{b", "{b:", "{b:c", "{b:c,", "[b", "[b,", "(b", "b(c", "b(c,", "b[c", "b?c", "function", "function f", "function(", "function(a", "function(a,", "function()", "function(){", "function(){b", "function(){b;", "function(){{}"} {
		wrong(t, src+"@", api.ErrSyntax)
		wrong(t, src+" // x\n@", api.ErrSyntax)
	}
}

// P6.1: lexemes that can't stand behind what stands ahead of them.
func TestMisplacedInExpressions(t *testing.T) {
	for _, src := range []string{
		"(b @c", "(b@,c", "(b@;", "(@)", "(b@]", "(b\n@c",
		"[@,", "[b @c", "[b,@,", "[b@;", "[b@)", "[b@:", "[b\n@c", "[@,]",
		"b(@,", "b(c,@)", "b(c @d", "b(c,@,", "b(c@]", "b(c@;",
		"b[@]", "b[c@,", "b[c@)", "b[c @d", "b[c@:",
		"b.@'c'", "b.@(", "b.@[", "b.@.c", "b@.5", "b. @5", "b.@+",
		"b?c@;", "b?c@,", "b?@:", "b?c?d:e@)", "b?c@}", "b?c\n@d",
		"{@,", "{b@,", "{b@}", "{b @c", "{b:c @d", "{b:c@;", "{b:c,@,", "{b:@,", "{b:c@:", "{@+", "{@(", "{@[b]:", "{@-1:", "{b@=", "{b:c@]", "{b@.c", "{b@(", "{1@", "{'b'@", "{if@", "{if@}", "{get @b", "{b:c\n@d",
		"function@+", "function @1", "function @if", "function @'f'", "function f @g", "function f@.", "function@[", "function@{", "function f@{", "function f()@1", "function f()@;", "function f()@=", "function(@,", "function(a,@)", "function(a @b", "function(a@=", "function(@1", "function(@'a'", "function(@if", "function(a,@if", "function(@(", "function(@[", "function(@{", "function(a@.", "function(){@)", "function(){@]", "function()\n@=", "function(){}@{",
		"b++ @++", "b++@c", "b++@.", "b++@[", "b++@(", "b++ @1", "b-- @--c", "b++ @--", "b++ @!", "b @c", "b @1", "b @'c'", "1 @b", "1 @1", "'a'@'b'", "b@{", "b @true", "b @!c", "b @~c", "b @typeof c", "b @delete c.d", "b @function", "1 @function", "true @b", "b @instanceof c", "b @of c", "b =@> c", "b *@* c", "b ?@? c", "b ?@. c", "b && @& c", "b = @= c", "b == @= c", "b === @= c", "b >>> @= c", "b >>>@= c", "b << @= c", "b & @= c", "b || @= c", "b @!c ", "b @! = c", "b + @* c", "b in @in c", "b <@> c", "b ? @? c", "b @: c",
		"(b)@c", "(b)(c)@d", "[b]@c", "[b]@'c'", "{b:c}@d", "{}@{", "b.c @d", "b.if @if", "b[c]@d", "b(c)@d", "-b @c",
	} {
		refuses(t, Expr, src, api.ErrSyntax)
		refuses(t, Expr, " "+src, api.ErrSyntax)
		refuses(t, Program, "x="+src, api.ErrSyntax)
		refuses(t, Program, "throw "+src, api.ErrSyntax)
	}
	for _, src := range []string{"a@)", "a@]", "a@}", "a @,b", "a@;", "a\n@++", "a\n@++b", "(a\n@++)", "[a\n@++b]", "1\n@--", "a\n@b"} {
		refuses(t, Expr, src, api.ErrSyntax)
	}
}

// P6.1: the bytes of a text are never taken for those of a mark or a word.
func TestTextsAreNoMarks(t *testing.T) {
	for units, bytes := range map[string]string{`\u2b2b`: "++", `\u7c7c`: "||", `\u696e`: "in", `\u3d3d`: "==", `\u6966`: "if", `\u6361\u7365`: "case", `\u7661\u7220`: "var "} {
		text, want := "'"+units+"'", "'"+plain(bytes)+"'"
		expr(t, text, want)
		expr(t, "a["+text+"]", "(index a "+want+")")
		expr(t, "{"+text+":a}", "(object "+want+" a)")
		wrong(t, "b@"+text, api.ErrSyntax)
		wrong(t, "b @"+text+" c", api.ErrSyntax)
		wrong(t, "b.@"+text, api.ErrSyntax)
		program(t, "a\n"+text, "(expr a)", "(expr "+want+")")
		program(t, text+";", "(expr "+want+")")
		refuses(t, Program, "var @"+text, api.ErrSyntax)
		refuses(t, Program, "function f(@"+text, api.ErrSyntax)
	}
}

// values are operands that no place is, marked where they begin.
func values() []string {
	return []string{"@1", "@'b'", "@null", "@[]", "(@1)", "((@b+c))", "@b()", "@b.c()", "(@b=c)", "(@b?c:d)", "(@b||c)", "@function(){}", "(@-b)", "(@b++)", "@{}", "@[b][0]()"}
}

// P6.1: what is assigned to, updated or deleted, and can't be; a fault behind it isn't reached.
func TestNoPlaces(t *testing.T) {
	for _, v := range values() {
		for _, op := range strings.Fields("= += -= *= /= %=") {
			wrong(t, v+op+"c", api.ErrPlace)
			wrong(t, v+op, api.ErrPlace)
			wrong(t, v+" "+op+")", api.ErrPlace)
			wrong(t, v+"\n"+op+"\n=", api.ErrPlace)
			wrong(t, "b=c="+v+op+"d", api.ErrPlace)
			wrong(t, "b="+v+op+"1=2", api.ErrPlace)
		}
		for _, op := range []string{"++", "--"} {
			for _, src := range []string{v + op, v + " " + op + " " + op, v + op + "=1", v + op + ")", op + v, op + "\n" + v, op + " " + op + v, op + v + " b", op + v + ";;)", op + v + "=b", op + v + op, "- " + v + op, "b+ " + op + v} {
				wrong(t, src, api.ErrPlace)
			}
		}
		for _, src := range []string{"delete " + v, "delete\n" + v, "delete " + v + "]]", "delete " + v + "=b", "b*delete " + v + "*c", "!delete " + v} {
			wrong(t, src, api.ErrPlace)
		}
	}
}

// P6.1: the same of operands that other operators have made; and which of two faults comes first.
func TestPlacesAmongOperators(t *testing.T) {
	for _, src := range []string{
		"delete @b", "delete(@b)", "delete @b=c", "delete @b c", "delete @-b.c", "delete @++b.c", "delete @b.c++", "delete @delete b.c", "delete @typeof b", "delete @b)",
		"@b+c=d", "@b||c=d", "@b&&c+=d", "@b|c^d&e=f", "@b==c<d=e", "@b in c=d", "@b<<c+d*e=f", "@-b=c", "@!b.c=d", "@typeof b=c", "@++b=c", "@b++=c", "@b--\n=c", "@delete b.c=d", "@++b.c=d", "(@b+c).d+e=f",
		"b?c:@d+e=f", "b?@c+d=e:f", "b?c=d:@1=e", "b=@c+d=e", "b=c=@d+e=f", "b.c=@-d=e", "(@b?c:d)=e", "@b(c)=d", "@b[c](d)=e", "b(@1=c)", "b[@1=c]", "[@1=c]", "{b:@1=c}", "(@1=c)",
		"++@-b", "++@b++", "++ @++b", "-- @-b", "++@!b", "++@b()", "++@b.c()", "++@b++ ++", "--@typeof b", "++@delete b.c", "++ @--b", "--(@b+c)", "--@-b", "++@+b",
		"@b()++", "@b.c()--", "-@1++", "b*@1++", "@1++ ++", "(@b=c)++", "(@b++)++", "(@++b)--", "@[b]++",
	} {
		wrong(t, src, api.ErrPlace)
	}
	for _, src := range []string{"++@)", "++b.@", "++b(@", "++(1 @2", "++(b@", "++[@", "++f(@", "delete b(@", "delete b[@", "delete(b@", "delete (b=@", "(1 @2)=3", "b @c=1", "f(1,@)=2", "[1@;]=2", "++{b@}"} {
		refuses(t, Expr, src, api.ErrSyntax)
		refuses(t, Program, "x="+src, api.ErrSyntax)
	}
	for _, src := range []string{"++@1 +", "++@1 2", "f(@1=", "[@1=,", "++@f()]", "delete @b c d"} {
		refuses(t, Expr, src, api.ErrPlace)
		refuses(t, Program, src, api.ErrPlace)
	}
	program(t, "1\n++\nb", "(expr 1)", "(expr (update ++ 1 b))")
	refuses(t, Program, "1\n++@", api.ErrSyntax)
	refuses(t, Program, "1\n++@2", api.ErrPlace)
	refuses(t, Program, "for(@1=2;;);", api.ErrPlace)
	refuses(t, Program, "for(var a=@1=2;;);", api.ErrPlace)
	refuses(t, Program, "a;b\n@1=c;d e", api.ErrPlace)
	refuses(t, Program, "a @b;1=c", api.ErrSyntax)
	refuses(t, Program, "(function(){@1=2;return)", api.ErrPlace)
	refuses(t, Program, "@return;1=2", api.ErrSyntax)
}

// P6.1: layer 5's faults are told ahead of all others, with their places.
func TestLexemesFirst(t *testing.T) {
	for _, src := range []string{"@#", ") @01", "1=2;@'", "a b @1x", "b.@#", "b@.1x", "return @/*", "a@\xff", "((((@\\", strings.Repeat(";", 5000) + "@#", strings.Repeat("[", 60) + "@é"} {
		refuses(t, Expr, src, api.ErrLex)
		refuses(t, Program, src, api.ErrLex)
	}
	for _, src := range []string{strings.Repeat(" ", api.MaxSource+1), strings.Repeat(";", api.MaxSource+1), "#" + strings.Repeat(")", api.MaxSource), strings.Repeat("1=", api.MaxSource)} {
		refuses(t, Expr, "@"+src, api.ErrLong)
		refuses(t, Program, "@"+src, api.ErrLong)
	}
}
