package eslex

import (
	"math/rand"
	"slices"
	"strings"
	"testing"

	"pennant/api"
)

// gaps are what may stand between two lexemes, and whether a line ends in it.
func gaps() map[string]bool {
	return map[string]bool{
		" ": false, "\t": false, "\v": false, "\f": false, "\u00a0": false, "\ufeff": false, " \t\v\f\u00a0\ufeff ": false,
		"\n": true, "\r": true, "\r\n": true, "\u2028": true, "\u2029": true, " \n ": true, "\n\n\n": true, "\t\r\t": true, "\ufeff\u2028\ufeff": true,
		" /**/": false, " /***/": false, " /****/": false, " /* */": false, " /*/*/": false, " /*//*/": false, " /* a */ /* b */": false, " /**//**/": false, " /* * / é \U0001f600 */": false, " /* 'a \" */": false, " /* # 01 1x \\ */": false, " /*\t\v\f*/": false, " /* \u0085 \u2027 \u202a */": false,
		" /*\n*/": true, " /*\r*/": true, " /*\u2028*/": true, " /*\u2029*/": true, " /* a\r\nb */": true, " /* a */ /*\n*/": true, " /*\n*/ /* a */": true, " /**/\n": true, "\n/**/": true, "\n /* */ ": true, " /*é\n*/ /**/ ": true,
		" //\n": true, " // a\n": true, " // a\r": true, " // a\u2028": true, " // a\u2029": true, " // é /* \" '\n": true, " // # 01 1x \\\r\n": true, " ///\n": true, " //*\n": true, " //*/\n": true, " ////\n//\n": true, " // /*\n /* // */": true, " /* // */ //\n": true, "\n// a \u0085 b\n": true,
	}
}

// pieces are lexemes, each as it may stand in a script.
func pieces() []string {
	list := append(allMarks(), allWords()...)
	return append(list, "a", "b1", "$", "_", "iff", "0", "1", "1.", ".5", "1e5", "1.5e-1", "0x1F", "0xe", "''", `""`, `'a'`, `"é"`, `"\u00e9\n"`, "'\\\n'", `'//'`, `"/*"`)
}

// P5.2: each gap at each place, at the beginning and at the end.
func TestGaps(t *testing.T) {
	a, b := nameAt(0, "a"), wordAt(1, "if")
	for gap, line := range gaps() {
		size := len(gap)
		b.At, b.Line = 1+size, line
		tells(t, "a"+gap+"if", a, b)
		tells(t, "a"+gap+"if"+gap, a, b)
		tells(t, gap)
		first := a
		first.At, first.Line = size, line
		tells(t, gap+"a", first)
		second := numAt(len("'\\\n'")+size, 1)
		second.Line = line
		tells(t, "'\\\n'"+gap+"1", textAt(0, ""), second)
		third := markAt(1+2*size, "=")
		third.Line = line
		tells(t, "="+gap+gap+"=", markAt(0, "="), third)
	}
}

// P5.2: only a line end right ahead of a lexeme counts for it.
func TestLines(t *testing.T) {
	tells(t, "\na b\nc d", lined(nameAt(1, "a")), nameAt(3, "b"), lined(nameAt(5, "c")), nameAt(7, "d"))
	tells(t, "a\n\n;b", nameAt(0, "a"), lined(markAt(3, ";")), nameAt(4, "b"))
	tells(t, "x\n++y", nameAt(0, "x"), lined(markAt(2, "++")), nameAt(4, "y"))
	tells(t, "'\\\n'a", textAt(0, ""), nameAt(4, "a"))
	tells(t, "'\u2028' a", textAt(0, wide("\u2028")), nameAt(6, "a"))
	tells(t, "a/*\n*/b/* */c", nameAt(0, "a"), lined(nameAt(6, "b")), nameAt(12, "c"))
	tells(t, "a//b\nc//d", nameAt(0, "a"), lined(nameAt(5, "c")))
	tells(t, "a//b\u0085c\nd", nameAt(0, "a"), lined(nameAt(8, "d")))
	tells(t, "a/b/c", nameAt(0, "a"), markAt(1, "/"), nameAt(2, "b"), markAt(3, "/"), nameAt(4, "c"))
	tells(t, "a/ /b", nameAt(0, "a"), markAt(1, "/"), markAt(3, "/"), nameAt(4, "b"))
	tells(t, "a*/**/b", nameAt(0, "a"), markAt(1, "*"), nameAt(6, "b"))
	tells(t, "a*//b", nameAt(0, "a"), markAt(1, "*"))
	tells(t, "a/*b*/*/c", nameAt(0, "a"), markAt(6, "*"), markAt(7, "/"), nameAt(8, "c"))
	tells(t, "a//=b\n/=c", nameAt(0, "a"), lined(markAt(6, "/=")), nameAt(8, "c"))
}

// P5.1: remarks of the second sort that don't end.
func TestWrongRemarks(t *testing.T) {
	for _, src := range []string{"/*", "/*/", "/* ", "/**", "/* *", "/* * /", "/*\n", "/*/*", "/*//", "/* é", "/* \n // \n"} {
		refuses(t, src, 0)
		refuses(t, "a"+src, 1)
		refuses(t, "/**/"+src, 4)
		refuses(t, "a\n "+src, 3)
	}
	refuses(t, "*/*", 1)
	refuses(t, "/**/ */ /*", 8)
	refuses(t, "/* /* */ */ #", 12)
}

// P5.2: lexemes with any gaps between them are those that each piece is by itself.
func TestPiecesWithGaps(t *testing.T) {
	dice := rand.New(rand.NewSource(5))
	var between []string
	lines := gaps()
	for gap := range lines {
		between = append(between, gap)
	}
	slices.Sort(between)
	for range 20000 {
		var src strings.Builder
		var want []api.Lexeme
		for range dice.Intn(8) {
			gap := between[dice.Intn(len(between))]
			piece := pieces()[dice.Intn(len(pieces()))]
			src.WriteString(gap)
			own, _, _ := Lex(piece)
			own = moved(own, src.Len())
			own[0].Line = lines[gap]
			want = append(want, own...)
			src.WriteString(piece)
		}
		tells(t, src.String(), want...)
	}
}

// P5.2: a gap that is laid between two lexemes moves those behind it, and says whether a line ended ahead of the first of them.
func TestLaidGaps(t *testing.T) {
	for _, src := range []string{
		"a1+=0x1F;", "if(x>>>1.5e1)y=-1", "a/b /c", "f('x',\"y\")[0].z++", "/* x */a\n--b", "{a:1,'b':.5}", "x // y\n/z", "1..5", "for(;;){}",
	} {
		list, _, e := Lex(src)
		if e != api.OK || len(list) < 2 {
			t.Fatal(src, list, e)
		}
		for n, x := range list {
			for gap, line := range gaps() {
				want := append(slices.Clone(list[:n]), moved(list[n:], len(gap))...)
				want[n].Line = x.Line || line
				tells(t, src[:x.At]+gap+src[x.At:], want...)
			}
		}
	}
}
