package esparse

import (
	"strings"
	"testing"

	"pennant/api"
)

// misplaced holds Program against a fault of statements, wherever they stand: in a program, in a body, and, unless they are about functions, in parts of statements.
func misplaced(t *testing.T, src string) {
	t.Helper()
	for _, ahead := range []string{"", "  ", "x;", "/*é*/\n", "if(x)y;else{}\n", "function f(){}", "(function(){", "function f(){x;", "function f(){if(x){}"} {
		refuses(t, Program, ahead+src, api.ErrSyntax)
	}
	if strings.HasPrefix(src, "function") {
		return
	}
	for _, ahead := range []string{"{", "{x;", "if(x)", "if(x)y;else ", "while(x)", "for(;;)", "for(x in y)", "try{", "try{}catch(e){", "try{}finally{", "switch(x){case y:z;", "switch(x){default:z;"} {
		refuses(t, Program, ahead+src, api.ErrSyntax)
	}
}

// P6.1: statements that aren't right.
func TestMisplacedInStatements(t *testing.T) {
	for _, src := range []string{
		"a @b", "a;b @c", "a @1", "a@,b", "a@:b", "a@{}", "a @if(b)c", "1 @var b", "a@)", "a@]", "@)", "@,", "@=", "@*a", "@?", "@:", "a?b@", "a++@b", "a++ @++b", "a @return",
		"var@", "var@;", "var @1", "var @if", "var @'a'", "var a @b", "var a,@", "var a,@;", "var a,\n@if", "var a=@", "var a=@;", "var a=1 @b", "var a=1,@2", "var a@+b", "var a@++", "var a@.b", "var a@[0]", "var a @in b", "var a@+=1", "var@(a)", "var@[a]", "var@{a}", "var a\n@:", "var a@==1", "var @var", "var a @var b", "var a@:b",
		"if@", "if @a", "if(@", "if(@)", "if(a@", "if(a @b", "if(a@;", "if(a)@", "if(a)@}", "if(a)@)", "if(a)@else", "if(a)@else b", "if(a)b @else c", "if(a)b;else@", "if(a)b;else@}", "if(a)b;else @else", "if@{", "if(@var a)", "if(a@,b)", "if@[a]",
		"while@", "while @a", "while(@", "while(@)", "while(a@", "while(a)@", "while(a)@}", "while(a@;b)", "while(a)@else", "while(a)b @c", "while(@var a)", "while@{",
		"for@", "for @a", "for(@", "for(@)", "for(a@", "for(a@)", "for(a;@", "for(a;b@", "for(a;b@)", "for(a;b;@", "for(;;@", "for(;;)@", "for(;;)@}", "for(;@)", "for(;;@;)", "for(;a;b@;)", "for(a @b;;)", "for(a@,b;;)", "for(a\n@b;c)", "for(a;b\n@c)", "for(\n\n@)", "for(var a\n@b;c);", "for(var@;;)", "for(var a @b;;)", "for(var a,@;;)", "for(var a;;@", "for(;@var a;)", "for(;;@var a)", "for(;@return;)", "for(@return;;)", "for(;;)@else", "for@{", "for(;;b @c)", "for(;;b@;)", "for(@if;;)",
		"for(@in", "for(a in@", "for(a in@)", "for(a in b@", "for(a in b)@", "for(a in b)@}", "for(a in b@;", "for(a in b@;;)", "for(a in b@,c)", "for(a in b @c)", "for(var a in@", "for(var a in@)", "for(var a in b@;;)", "for(var a in b@", "for(a.b in c@)", "for((a)in b@)", "for(1 in b@)", "for(a@,b in c)", "for(var a,b @in c)", "for(var a=b in c@)", "for(var @in b)", "for(var @1 in b)", "for(var @if in b)", "for(@if in b)", "for(var@(a)in b)", "for(a @of b)", "for(var a @of b)", "for(var @var a in b)", "for(a++ in b@)", "for(a in b)c @d", "for(@this in b)", "for('a'in b@)",
		"throw@", "throw@;", "throw@}", "throw@)", "throw a @b", "throw\n@a", "throw\n@", "throw\n@;", "throw /*\n*/ @a", "throw//\n@(a)", "throw\r@1=2", "throw a@,b", "throw @if", "throw @throw a", "throw a@:b",
		"try@", "try @a", "try@;", "try{@", "try{}@", "try{}@;", "try{}@a", "try{}@{}", "try{}@try", "try{}catch@", "try{}catch@{}", "try{}catch(@", "try{}catch(@)", "try{}catch(@1)", "try{}catch(@if)", "try{}catch(@'a')", "try{}catch(a@", "try{}catch(a@,b)", "try{}catch(a @b)", "try{}catch(a)@", "try{}catch(a)@b", "try{}catch(a)@;", "try{}catch(a){@", "try{}catch(a){}@catch", "try{}catch(a){}@catch(b){}", "try{}finally@", "try{}finally @a", "try{}finally@;", "try{}finally{@", "try{}finally{}@catch(a){}", "try{}finally{}@finally{}", "@catch(a){}", "@finally{}", "try{}catch(@{a}){}", "try{}catch(a@.b){}", "try@(a){}", "try{}catch(a)\n@;", "try{}\n@", "try{}@else", "try{@]",
		"switch@", "switch @a", "switch(@", "switch(@)", "switch(a@", "switch(a)@", "switch(a)@b", "switch(a)@;", "switch(a){@", "switch(a){@b", "switch(a){@;", "switch(a){@{", "switch(a){case@", "switch(a){case@}", "switch(a){case@:", "switch(a){case b@", "switch(a){case b@;", "switch(a){case b @c:", "switch(a){case b@,c:", "switch(a){case b:@", "switch(a){case b:c @d", "switch(a){case b:c@", "switch(a){case b:@)", "switch(a){default@", "switch(a){default@}", "switch(a){default @b:", "switch(a){default@;", "switch(a){default:@", "switch(a){default:@default:", "switch(a){default:b;@default:c}", "switch(a){default:case b:@default}", "switch(a){default:case b:c\n@default", "switch(a){case @default:", "switch(a){case b?c:@", "switch(a){case b?c@}", "switch(a){case b:@else", "switch(a@,b){", "switch@[a]{", "switch(a){case b:case@", "switch(a){@finally", "switch(a){default:b @default:",
		"function@", "function@(", "function@(){}", "function @1", "function @if", "function @'f'", "function f@", "function f@;", "function f@{", "function f(@", "function f(@1", "function f(@if", "function f(a,@", "function f(a,@)", "function f(@,", "function f(a @b", "function f(a@=1", "function f()@", "function f()@;", "function f()@a", "function f(){@", "function f(){a@", "function f(){a @b", "function f(){}(@)", "function f(){}@.a", "function f(){}@=a", "function f(){}@*a", "function f(){}@in a", "function@*f(){}", "function f(){@]", "function f(@{a}){}", "function f(@function",
		"{@", "{a@", "{a;@", "{a @b", "{a@,", "{a@:b}", "{'a'@:b}", "{1@:b}", "{@)", "{@]", "{a@]", "{{}@", "{@=", "{@case", "{a@:", "{@,", "{}@=a", "{}@.a", "{}@in a", "{}@*a", "{}@?a:b", "{}@||a", "{}@,a",
		"@do{}while(a)", "@with(a)b", "@let a", "@const a=1", "@class A{}", "@import a", "@export a", "@debugger", "@new a", "@this", "@super", "@void 0", "@yield a", "@enum", "@instanceof a", "@in a", "@extends",
	} {
		misplaced(t, src)
	}
	for _, src := range []string{
		"@else", "@case a:", "@default:", "if(a)b;c;@else d", "@}", "a@}", "a;@}", "a\n@}", "{}@}", "var a@}", "if(a)b@}", "if(a){}else{}@else", "@else b",
	} {
		refuses(t, Program, src, api.ErrSyntax)
		refuses(t, Program, "x;"+src, api.ErrSyntax)
	}
}

// P6.1: return, break, continue and functions where none may stand: their words.
func TestWordsOutOfPlace(t *testing.T) {
	for _, src := range []string{
		"@return", "@return;", "@return 1", "a;@return", "{@return}", "if(a)@return", "while(a)@return", "for(;;)@return", "for(a in b)@return", "try{@return}", "try{}catch(e){@return}", "try{}finally{@return}", "switch(a){case b:@return}", "switch(a){default:@return}", "if(a);else @return", "(function(){return});@return", "function f(){return}@return", "@return)",
		"@break", "@break;", "a;@break", "{@break}", "if(a)@break", "if(a);else @break", "try{@break}", "try{}catch(e){@break}", "try{}finally{@break}", "while(a);@break", "while(a){}@break", "for(;;);@break", "for(a in b);@break", "switch(a){case b:}@break", "(function(){@break})", "while(a)(function(){@break})", "while(a){b=function(){@break}}", "for(;;)(function(){if(a)@break})", "switch(a){case b:(function(){@break})}", "while(function(){@break})", "switch(function(){@break}){", "switch(a){case function(){@break}:", "for(;function(){@break};)", "while(a){@function f(){break}}", "@break a",
		"@continue", "@continue;", "{@continue}", "if(a)@continue", "while(a);@continue", "switch(a){case b:@continue}", "switch(a){default:{@continue}}", "switch(a){case b:if(c)@continue}", "while(a)(function(){@continue})", "while(a)b=function(){switch(c){case d:@continue}}", "for(;;);@continue", "try{@continue}", "switch(a){case b:while(c);@continue}", "while(function(){@continue})", "@continue a",
		"while(a)break @b", "while(a)continue @b", "while(a)break @1", "while(a)break@,", "while(a)break@)", "while(a)break@:", "while(a)break @else", "while(a)break@(b)", "(function(){return@)", "(function(){return@,", "(function(){return a @b", "(function(){return @return", "(function(){return@:", "(function(){return a@,b", "(function(){return\n@)", "(function(){return @if", "(function(){return@=1", "(function(){return\n@=1", "(function(){return @var",
		"{@function f(){}}", "if(a)@function f(){}", "if(a);else @function f(){}", "while(a)@function f(){}", "for(;;)@function f(){}", "for(a in b)@function f(){}", "for(var a in b)@function f(){}", "try{@function f(){}}", "try{}catch(e){@function f(){}}", "try{}finally{@function f(){}}", "switch(a){case b:@function f(){}}", "switch(a){default:@function f(){}}", "{@function(){}}", "{a;@function f(){}}", "(function(){{@function f(){}}})", "function f(){if(a)@function g(){}}", "function f(){while(a){@function g(){}}}", "{{@function", "{@function", "if(a)@function(){}", "a @function f(){}",
	} {
		refuses(t, Program, src, api.ErrSyntax)
		refuses(t, Program, "\n "+src, api.ErrSyntax)
		refuses(t, Program, "function f(){while(x){return}}"+src, api.ErrSyntax)
		refuses(t, Program, "while(x){break;continue}"+src, api.ErrSyntax)
	}
}
