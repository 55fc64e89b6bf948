package esprint

import (
	"runtime"
	"slices"
	"strings"
	"testing"

	"pennant/api"
)

// stretched is a tree in which another name, or text, of so many letters stands for pad.
func stretched(a api.Ast, letters int) api.Ast {
	nodes := slices.Clone(a.Nodes)
	for n, x := range nodes {
		switch x.Op {
		case "pad":
			nodes[n].Op = strings.Repeat("a", letters)
		case wide("pad"):
			nodes[n].Op = wide(strings.Repeat("a", letters))
		}
	}
	return api.Ast{Nodes: nodes}
}

// P7.1: a text has so many bytes at most, wherever they are.
func TestLongTexts(t *testing.T) {
	for _, src := range []string{
		"pad", "'pad'", "[pad]", "[1,pad,2]", "-pad", "pad.b", "a.pad", "pad[0]", "a[pad]", "pad()", "f(a,pad)", "{pad:1}", "{a:pad}", "pad++", "--pad", "pad+1", "(pad+1)*2", "a||pad", "a?b:pad", "pad=1", "a=pad", "function pad(){}", "function(pad){}", "function(){pad}", "function(){return function(){pad}}", "[function(){},function(){pad},function(){(function(){})}]",
		"pad;", "pad;;", "({pad:1});", "(function(){pad});", "var pad;", "var a,pad=1;", "{pad}", "if(pad);", "if(a);else pad", "while(pad);", "for(pad;;);", "for(var pad;;);", "for(var a=pad,b;;);", "for(;pad;);", "for(;;pad);", "for(pad in a);", "for(var a in pad);", "function f(){return pad}", "throw pad;", "try{}catch(pad){}", "try{pad}finally{}", "switch(pad){}", "switch(a){case pad:}", "switch(a){default:pad}", "function pad(){}a", "a=function(){};b=function(){(function(){pad})};",
	} {
		a := parsed(t, src)
		s, _ := print(t, a)
		rest := 8192 - len(s) + len("pad")
		for more := -3; more <= 3; more++ {
			want := api.OK
			if more > 0 {
				want = api.ErrLong
			}
			refuses(t, stretched(a, rest+more), want)
		}
	}
	for _, count := range []int{1364, 1365, 1366, 3000, 5000} {
		want := api.OK
		if 6*count+len(`""`) > 8192 {
			want = api.ErrLong
		}
		refuses(t, laid(text(strings.Repeat("é", count))), want)
		refuses(t, parsed(t, `"`+strings.Repeat("'", count)+`"`), api.OK)
		refuses(t, parsed(t, `'`+strings.Repeat(`"`, count)+`'`), want)
	}
	// A name that begins as a function does takes two bytes more.
	for more := -3; more <= 3; more++ {
		want := api.OK
		if more > 0 {
			want = api.ErrLong
		}
		long := strings.Repeat("a", 8192+more-len("(function);\n"))
		refuses(t, laid(program(alone(name("function"+long)))), want)
		refuses(t, laid(program(alone(name("Function"+long+"aa")))), want)
	}
}

// P7.1: functions that begin and end with others.
func TestLongFunctions(t *testing.T) {
	const functions = 15
	one := "function () {\nreturn ;\n}"
	for more := -3; more <= 3; more++ {
		x := name(strings.Repeat("a", 8192+more-functions*len(one)))
		for range functions {
			x = node(api.ExFunc, "", block(node(api.StReturn, "", x)))
		}
		want := api.OK
		if more > 0 {
			want = api.ErrLong
		}
		refuses(t, laid(x), want)
	}
}

// P7.1: a text of any length is told to be too long, where the tree has shape, however it is read; no room is taken for it.
func TestEndlessTexts(t *testing.T) {
	endless := strings.Repeat("a\x00", 1<<24)
	for _, x := range []*tree{name(endless), node(api.ExText, endless), node(api.ExMember, endless, name("a")), array(name(endless), name(endless)), program(node(api.StFunc, endless, block()))} {
		a := laid(x)
		var before, after runtime.MemStats
		runtime.ReadMemStats(&before)
		_, e := Print(a)
		runtime.ReadMemStats(&after)
		if room := after.TotalAlloc - before.TotalAlloc; e != api.ErrLong || room > 1<<20 {
			t.Error(e, room)
		}
	}
	x := name(endless)
	for range api.MaxAst - 1 {
		x = node(api.ExUnary, endless, x)
	}
	refuses(t, laid(x), api.ErrLong)
	refuses(t, laid(array(x)), api.ErrArg)
}

// P7.1: how many nodes a tree has.
func TestManyNodes(t *testing.T) {
	var kids []*tree
	for range api.MaxAst - 2 {
		kids = append(kids, empty())
	}
	prints(t, laid(program(kids...)), strings.Repeat(";\n", api.MaxAst-2))
	kids = append(kids, empty())
	prints(t, laid(program(kids...)), strings.Repeat(";\n", api.MaxAst-1))
	shapely(t, laid(program(append(kids[1:], long())...)), true)
	refuses(t, laid(program(append(kids, empty())...)), api.ErrArg)
	shapely(t, laid(program(append(kids, long())...)), false)
	shapely(t, laid(program(append(kids, empty(), long())...)), false)
}

// P7.1: how deep a tree is has no limit of its own, but no script says one that is too deep.
func TestDeepTrees(t *testing.T) {
	for _, c := range []struct {
		count             int
		operators, blocks api.Errno // three bytes each, and four
	}{
		{api.MaxNest - 1, api.OK, api.OK}, {api.MaxNest, api.ErrArg, api.ErrArg}, {1000, api.ErrArg, api.ErrArg}, {2047, api.ErrArg, api.ErrArg}, {2049, api.ErrArg, api.ErrLong}, {2731, api.ErrArg, api.ErrLong}, {2732, api.ErrLong, api.ErrLong}, {api.MaxAst - 1, api.ErrLong, api.ErrLong},
	} {
		x, y := name("a"), empty()
		for n := range c.count {
			x = node(api.ExUnary, "-", x)
			if n > 0 {
				y = block(y)
			}
		}
		refuses(t, laid(x), c.operators)
		refuses(t, laid(program(y)), c.blocks)
	}
}
