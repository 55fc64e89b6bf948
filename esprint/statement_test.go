package esprint

import "testing"

// P7.1: statements of one line.
func TestSimpleStatements(t *testing.T) {
	for src, want := range map[string]string{
		"a": "a;\n", "a;": "a;\n", "a=b": "a = b;\n", "'a'": "\"a\";\n", "-a": "-a;\n",
		";": ";\n", ";;": ";\n;\n", "a;;b": "a;\n;\nb;\n",
		"var a": "var a;\n", "var a,b": "var a, b;\n", "var a=1": "var a = 1;\n", "var a=1,b,c=d=e": "var a = 1, b, c = d = e;\n", "var a={},b=function(){}": "var a = {}, b = function () {\n};\n", "var a=b in c": "var a = b in c;\n",
		"throw a": "throw a;\n", "throw a=b": "throw a = b;\n", "throw{}": "throw {};\n", "throw function(){}": "throw function () {\n};\n", "throw(a)": "throw a;\n",
		"{}": "{\n}\n", "{;}": "{\n;\n}\n", "{a;{b}}": "{\na;\n{\nb;\n}\n}\n", "{}{}": "{\n}\n{\n}\n",
		"a\n++b": "a;\n++b;\n", "a++\nb": "a++;\nb;\n",
	} {
		statement(t, src, want)
	}
}

// P7.1: an expression that begins as a block or a function does isn't a statement as it stands, nor is one whose first name begins so.
func TestBeginningsOfStatements(t *testing.T) {
	for src, want := range map[string]string{
		"({})": "({});\n", "({a:b})": "({\"a\": b});\n", "(function(){})": "(function () {\n});\n", "(function f(a){a})": "(function f(a) {\na;\n});\n",
		"functional": "(functional);\n", "function1.a": "(function1.a);\n", "function_=a": "(function_ = a);\n", "function$(a)": "(function$(a));\n", "functions++": "(functions++);\n", "functions?a:b": "(functions ? a : b);\n", "functions+a": "(functions + a);\n", "functions[a].b(c)": "(functions[a].b(c));\n",
		"({}).a": "({}).a;\n", "({})+a": "({}) + a;\n", "(function(){})()": "(function () {\n})();\n", "(function(){}).a=b": "(function () {\n}).a = b;\n", "({})?a:b": "({}) ? a : b;\n", "(functions+a)*b": "(functions + a) * b;\n", "(functions=a)+b": "(functions = a) + b;\n", "[functions]": "[functions];\n", "-functions": "-functions;\n", "a=functions": "a = functions;\n", "functio": "functio;\n", "Function": "Function;\n", "'function'": "\"function\";\n", "'{'": "\"{\";\n", "typeof{}": "typeof ({});\n", "++functions": "++functions;\n", "a=({})": "a = {};\n",
	} {
		statement(t, src, want)
	}
	statement(t, "if(a)functions;else({})", "if (a) (functions);\nelse ({});\n")
	statement(t, "while(a)(function(){})", "while (a) (function () {\n});\n")
	statement(t, "for(functions;functions;functions)functions", "for ((functions); functions; functions) (functions);\n")
	statement(t, "switch(a){case functions:functions}", "switch (a) {\ncase functions:\n(functions);\n}\n")
	statement(t, "(function(){(function(){})})", "(function () {\n(function () {\n});\n});\n")
}

// P7.1: statements with others in them.
func TestCompounds(t *testing.T) {
	for src, want := range map[string]string{
		"if(a)b": "if (a) b;\n", "if(a){}": "if (a) {\n}\n", "if(a);": "if (a) ;\n", "if(a)b;else c": "if (a) b;\nelse c;\n", "if(a)b;else{c}": "if (a) b;\nelse {\nc;\n}\n", "if(a)b;else if(c)d;else e": "if (a) b;\nelse if (c) d;\nelse e;\n", "if(a)if(b)c;else d": "if (a) if (b) c;\nelse d;\n", "if(a){if(b)c}else d": "if (a) {\nif (b) c;\n}\nelse d;\n", "if(a=b)c": "if (a = b) c;\n", "if(a)while(b)c;else d": "if (a) while (b) c;\nelse d;\n", "if({})a": "if ({}) a;\n",
		"while(a)b": "while (a) b;\n", "while(a);": "while (a) ;\n", "while(a){break;continue}": "while (a) {\nbreak;\ncontinue;\n}\n", "while(a)while(b)continue": "while (a) while (b) continue;\n",
		"for(;;);": "for (; ; ) ;\n", "for(;;)break": "for (; ; ) break;\n", "for(a;b;c)d": "for ((a); b; c) d;\n", "for(a=b;c=d;e=f){}": "for ((a = b); c = d; e = f) {\n}\n", "for(;a;);": "for (; a; ) ;\n", "for(;;a);": "for (; ; a) ;\n", "for(a;;);": "for ((a); ; ) ;\n", "for(var a;;);": "for (var a; ; ) ;\n", "for(var a=1,b;a;)c": "for (var a = 1, b; a; ) c;\n", "for(var a=b in c;;);": "for (var a = b in c; ; ) ;\n", "for((a in b);;);": "for ((a in b); ; ) ;\n", "for({};{};{});": "for (({}); {}; {}) ;\n", "for(function(){};;);": "for ((function () {\n}); ; ) ;\n",
		"for(a in b);": "for (a in b) ;\n", "for(var a in b)c": "for (var a in b) c;\n", "for(a in b in c)d": "for (a in b in c) d;\n", "for(a in b=c){continue}": "for (a in b = c) {\ncontinue;\n}\n", "for(var functions in {})a": "for (var functions in {}) a;\n",
		"try{}catch(a){}": "try {\n}\ncatch (a) {\n}\n", "try{}finally{}": "try {\n}\nfinally {\n}\n", "try{a}catch(b){c}finally{d}": "try {\na;\n}\ncatch (b) {\nc;\n}\nfinally {\nd;\n}\n", "try{try{}finally{}}catch(a){}": "try {\ntry {\n}\nfinally {\n}\n}\ncatch (a) {\n}\n",
		"switch(a){}": "switch (a) {\n}\n", "switch(a){case 1:}": "switch (a) {\ncase 1:\n}\n", "switch(a){default:}": "switch (a) {\ndefault:\n}\n", "switch(a=b){case c?d:e:f;g;default:h;case i:{}case j=k:break}": "switch (a = b) {\ncase c ? d : e:\nf;\ng;\ndefault:\nh;\ncase i:\n{\n}\ncase j = k:\nbreak;\n}\n", "switch(a){case{}:case function(){}:;}": "switch (a) {\ncase {}:\ncase function () {\n}:\n;\n}\n",
		"function f(){}": "function f() {\n}\n", "function f(a){return}": "function f(a) {\nreturn;\n}\n", "function f(a,b){return a=b}": "function f(a, b) {\nreturn a = b;\n}\n", "function f(){return{}}": "function f() {\nreturn {};\n}\n", "function f(){return function(){}}": "function f() {\nreturn function () {\n};\n}\n", "function f(){function g(){}g()}": "function f() {\nfunction g() {\n}\ng();\n}\n", "function f(){while(a)return b}": "function f() {\nwhile (a) return b;\n}\n",
	} {
		statement(t, src, want)
	}
	prints(t, programOf(t, ""), "")
	prints(t, programOf(t, " //\n"), "")
	prints(t, programOf(t, "a"), "a;\n")
}
