package eslex

import (
	"math"
	"slices"
	"strings"
	"testing"
	"unicode/utf16"

	"pennant/api"
)

// wide is the wide text of a text's characters.
func wide(s string) string { return wideOf(utf16.Encode([]rune(s))...) }

// wideOf is the wide text of these units.
func wideOf(units ...uint16) string {
	var b strings.Builder
	for _, u := range units {
		b.WriteByte(byte(u >> 8))
		b.WriteByte(byte(u))
	}
	return b.String()
}

func nameAt(at int, s string) api.Lexeme { return api.Lexeme{Kind: api.LexName, Text: s, At: at} }

func wordAt(at int, s string) api.Lexeme { return api.Lexeme{Kind: api.LexWord, Text: s, At: at} }

func markAt(at int, s string) api.Lexeme { return api.Lexeme{Kind: api.LexMark, Text: s, At: at} }

func numAt(at int, x float64) api.Lexeme { return api.Lexeme{Kind: api.LexNum, Num: x, At: at} }

func textAt(at int, w string) api.Lexeme { return api.Lexeme{Kind: api.LexText, Text: w, At: at} }

// lined is a lexeme with a line end ahead of it.
func lined(x api.Lexeme) api.Lexeme {
	x.Line = true
	return x
}

// moved are lexemes so many bytes further on.
func moved(list []api.Lexeme, by int) []api.Lexeme {
	list = slices.Clone(list)
	for i := range list {
		list[i].At += by
	}
	return list
}

// tells holds what Lex answers against the lexemes that a script has.
func tells(t *testing.T, src string, want ...api.Lexeme) {
	t.Helper()
	list, at, e := Lex(src)
	if !slices.Equal(list, want) || at != 0 || e != api.OK {
		t.Errorf("%.80q: %+v, %d, %d, not %+v", src, list, at, e, want)
	}
}

// refuses holds it against the place of a wrong script's fault, wherever the script stands.
func refuses(t *testing.T, src string, want int) {
	t.Helper()
	for _, ahead := range []string{"", " ", "x ", "\ufeff\n;", "'é'", "1+", "// é\n", "/* 'é\n*/", "if(a)"} {
		list, at, e := Lex(ahead + src)
		if len(list) != 0 || at != len(ahead)+want || e != api.ErrLex {
			t.Errorf("%.80q: %+v, %d, %d, not ErrLex at %d", ahead+src, list, at, e, len(ahead)+want)
		}
	}
}

// P5.1: the chapter's examples.
func TestExamples(t *testing.T) {
	tells(t, "a1+=0x1F;", nameAt(0, "a1"), markAt(2, "+="), numAt(4, 31), markAt(8, ";"))
	tells(t, "if(x>>>1.5e1)", wordAt(0, "if"), markAt(2, "("), nameAt(3, "x"), markAt(4, ">>>"), numAt(7, 15), markAt(12, ")"))
	tells(t, `"a\n\x41\u00e9"`, textAt(0, wide("a\nAé")))
	tells(t, "a /* 10 */ b // c", nameAt(0, "a"), nameAt(11, "b"))
	tells(t, "a /* \n */ b // c", nameAt(0, "a"), lined(nameAt(10, "b")))
	for _, src := range []string{"01", "1a", "1e", "0x", `"a`, "/*", "#", "é"} {
		refuses(t, src, 0)
	}
	list, at, e := Lex(`x "a`)
	if len(list) != 0 || at != 2 || e != api.ErrLex {
		t.Error(list, at, e)
	}
	tells(t, "x ..", nameAt(0, "x"), markAt(2, "."), markAt(3, "."))
}

// P5.1: scripts that say nothing.
func TestNothing(t *testing.T) {
	for _, src := range []string{"", " ", "\n", "\ufeff", "//", "// x", "/**/", "/* x */ \r\n // y", "\t\v\f \u00a0\ufeff\n\r\u2028\u2029"} {
		tells(t, src)
	}
}

// P5.1: how long a script may be; a longer one is ErrLong, whatever else is wrong with it.
func TestLong(t *testing.T) {
	tells(t, strings.Repeat(" ", api.MaxSource-1)+"a", nameAt(api.MaxSource-1, "a"))
	tells(t, strings.Repeat("a", api.MaxSource), nameAt(0, strings.Repeat("a", api.MaxSource)))
	tells(t, "'"+strings.Repeat("é", api.MaxSource/2-1)+"'", textAt(0, wide(strings.Repeat("é", api.MaxSource/2-1))))
	for _, src := range []string{
		strings.Repeat(" ", api.MaxSource+1), strings.Repeat("a", api.MaxSource+1), strings.Repeat(";", 10*api.MaxSource),
		strings.Repeat("é", api.MaxSource/2) + " ", "#" + strings.Repeat(" ", api.MaxSource), strings.Repeat("\xff", api.MaxSource+1),
	} {
		list, at, e := Lex(src)
		if len(list) != 0 || at != 0 || e != api.ErrLong {
			t.Errorf("%.20q: %d lexemes, %d, %d", src, len(list), at, e)
		}
	}
	list, at, e := Lex(strings.Repeat(" ", api.MaxSource-1) + "#")
	if len(list) != 0 || at != api.MaxSource-1 || e != api.ErrLex {
		t.Error(list, at, e)
	}
}

// allWords are the chapter's, as they stand there.
func allWords() []string {
	return strings.Fields("break case catch class const continue debugger default delete do else enum export extends false finally for function if import in instanceof let new null return super switch this throw true try typeof var void while with yield")
}

// allNames are no words, though many of them nearly are some.
func allNames() []string {
	list := strings.Fields("a z A Z _ $ a0 a9 aZ a_ a$ _0 $9 $$ __ _$1 xyz Z9z undefined NaN Infinity of get set async await static eval arguments implements interface package private protected public goto int x1F e5 E5 x0 u0041 b n")
	for _, w := range allWords() {
		list = append(list, w[:len(w)-1]+"0", w+"s", w+"0", "_"+w, w+"$", w+w, strings.ToUpper(w), strings.ToUpper(w[:1])+w[1:])
	}
	return list
}

// P5.1: names and words, in scripts, and told by Word and Name.
func TestNamesAndWords(t *testing.T) {
	for _, w := range allWords() {
		tells(t, w, wordAt(0, w))
		tells(t, "("+w+")", markAt(0, "("), wordAt(1, w), markAt(1+len(w), ")"))
		tells(t, "a."+w, nameAt(0, "a"), markAt(1, "."), wordAt(2, w))
		if !Word(w) || Name(w) {
			t.Error(w, Word(w), Name(w))
		}
	}
	for _, n := range allNames() {
		tells(t, n, nameAt(0, n))
		tells(t, "-"+n+"-1", markAt(0, "-"), nameAt(1, n), markAt(1+len(n), "-"), numAt(2+len(n), 1))
		if Word(n) || !Name(n) {
			t.Error(n, Word(n), Name(n))
		}
	}
}

// P5.1: what is neither name nor word.
func TestNoNames(t *testing.T) {
	list := []string{"", " ", "\x00", "0", "1", "9a", "0x1", ".", "a.b", "a-b", "a b", "é", "aé", "éa", "a\xff", "\xff", "a\\u0041", "\\u0041", "'a'", "@", "[", "`", "{", "/", ":", "#a", "a#", "a@", "a[", "a`", "a{", "a/", "a:", "a\x00", "Ā", "\u0141", "ａ", "a١"}
	for _, w := range append(allWords(), "a", "a1", "$") {
		list = append(list, w+" ", " "+w, w+"\n", w+";", w+"\x00", w+"é", "0"+w, w+"-", w+" "+w)
	}
	for _, s := range list {
		if Word(s) || Name(s) {
			t.Errorf("%q: %v, %v", s, Word(s), Name(s))
		}
	}
}

// P5.1: of all bytes those that open a name, and those that go on in one.
func TestNamesByBytes(t *testing.T) {
	const opening = "abcdefghijklmnopqrstuvwxyzABCDEFGHIJKLMNOPQRSTUVWXYZ_$"
	for b := range 256 {
		c := string([]byte{byte(b)})
		opens := strings.Contains(opening, c)
		goesOn := opens || strings.Contains("0123456789", c)
		if Name(c) != opens || Name("a"+c) != goesOn || Name("a"+c+"b") != goesOn {
			t.Errorf("%q: %v, %v", c, Name(c), Name("a"+c))
		}
		list, _, _ := Lex("a" + c)
		if goesOn != (len(list) == 1 && list[0].Text == "a"+c) {
			t.Errorf("a%q: %+v", c, list)
		}
	}
}

// allMarks are the chapter's, as they stand there.
func allMarks() []string {
	return strings.Fields("{ } ( ) [ ] ; , . < > <= >= == != === !== + - * / % ++ -- << >> >>> & | ^ ! ~ && || ? : = += -= *= /= %=")
}

// P5.1: each mark alone, and behind and ahead of other lexemes.
func TestMarks(t *testing.T) {
	for _, m := range allMarks() {
		tells(t, m, markAt(0, m))
		tells(t, "a"+m+"b", nameAt(0, "a"), markAt(1, m), nameAt(1+len(m), "b"))
		tells(t, m+"'x'"+m, markAt(0, m), textAt(len(m), wide("x")), markAt(3+len(m), m))
		tells(t, m+" "+m, markAt(0, m), markAt(len(m)+1, m))
	}
}

// P5.1: any three characters of marks: the longest mark that stands there.
func TestLongestMarks(t *testing.T) {
	const chars = "{}()[];,.<>=!+-*/%&|^~?:"
	marks := map[string]bool{}
	for _, m := range allMarks() {
		marks[m] = true
	}
	for i := range len(chars) * len(chars) * len(chars) {
		n := len(chars)
		src := string([]byte{chars[i/n/n], chars[i/n%n], chars[i%n]})
		if strings.Contains(src, "//") || strings.Contains(src, "/*") {
			continue
		}
		var want []api.Lexeme
		for at := 0; at < len(src); {
			end := len(src)
			for !marks[src[at:end]] {
				end--
			}
			want = append(want, markAt(at, src[at:end]))
			at = end
		}
		tells(t, src, want...)
	}
}

// P5.1: runs of marks that no one mark is.
func TestMarksOneBehindTheOther(t *testing.T) {
	for src, marks := range map[string]string{
		"====": "=== =", "!====": "!== ==", ">>>>": ">>> >", ">>>=": ">>> =", ">>=": ">> =", "<<=": "<< =", "<<<": "<< <", "=>": "= >", "...": ". . .", "**": "* *", "**=": "* *=", "&&=": "&& =", "||=": "|| =", "??": "? ?", "?.": "? .", "&=": "& =", "|=": "| =", "^=": "^ =", "~=": "~ =", "+++": "++ +", "---": "-- -", "+=+": "+= +", "-->": "-- >", "<!--": "< ! --", "!!": "! !", "=!=": "= !=", "*/": "* /", "/=/": "/= /", "<>": "< >", "<=>": "<= >", "=<": "= <", "=+": "= +", "!===": "!== =", "::": ": :", "|||": "|| |", "&&&": "&& &", "===!==": "=== !==",
	} {
		var want []api.Lexeme
		at := 0
		for _, m := range strings.Fields(marks) {
			want = append(want, markAt(at, m))
			at += len(m)
		}
		tells(t, src, want...)
	}
}

// P5.1: points that are marks, and points that are a number's.
func TestPoints(t *testing.T) {
	tells(t, "a.b", nameAt(0, "a"), markAt(1, "."), nameAt(2, "b"))
	tells(t, "a.5", nameAt(0, "a"), numAt(1, .5))
	tells(t, "a.$", nameAt(0, "a"), markAt(1, "."), nameAt(2, "$"))
	tells(t, "..5", markAt(0, "."), numAt(1, .5))
	tells(t, "1..5", numAt(0, 1), numAt(2, .5))
	tells(t, "1..a", numAt(0, 1), markAt(2, "."), nameAt(3, "a"))
	tells(t, "1.5.5", numAt(0, 1.5), numAt(3, .5))
	tells(t, ".5.5.", numAt(0, .5), numAt(2, .5), markAt(4, "."))
	tells(t, "1 .a", numAt(0, 1), markAt(2, "."), nameAt(3, "a"))
	tells(t, ". 5", markAt(0, "."), numAt(2, 5))
	tells(t, "'a'.b", textAt(0, wide("a")), markAt(3, "."), nameAt(4, "b"))
	tells(t, ".", markAt(0, "."))
}

// P5.1: a character that begins no lexeme, by its place.
func TestCharactersThatBeginNone(t *testing.T) {
	for _, c := range []string{"#", "@", "`", "\\", "\x00", "\x01", "\x08", "\x0e", "\x1f", "\x7f", "\u0080", "\u0085", "\u00aa", "é", "ª", "\u1680", "\u180e", "\u2000", "\u200b", "\u200d", "\u2027", "\u202a", "\u202f", "\u205f", "\u2060", "\u3000", "\ufefe", "\uff41", "\ufffd", "\uffff", "\U00010000", "\U0001f600", "\U0010ffff", "π", "Ā"} {
		refuses(t, c, 0)
		refuses(t, c+"/*", 0)
		refuses(t, "a"+c, 1)
		refuses(t, "a"+c+"b", 1)
		refuses(t, "if "+c, 3)
		refuses(t, "1"+c, 1)
		refuses(t, ".5"+c+"'", 2)
		refuses(t, "'x'"+c, 3)
		refuses(t, ">>"+c, 2)
		refuses(t, "/**/"+c, 4)
		refuses(t, "//\n"+c, 3)
	}
	refuses(t, `\u0061`, 0)
	refuses(t, `a\u0061`, 1)
	refuses(t, "a # b @", 2)
}

// notUTF are bytes with which no character of UTF-8 begins, however a script goes on behind them.
func notUTF() []string {
	return []string{"\x80", "\xbf", "\xc0\x80", "\xc1\xbf", "\xc3", "\xc3(", "\xe0\x80\x80", "\xe2\x80", "\xe2\x82", "\xed\xa0\x80", "\xed\xbf\xbf", "\xf0\x80\x80\x80", "\xf0\x9f\x98", "\xf4\x90\x80\x80", "\xf5", "\xfe", "\xff", "\xff\xff", "\xc2", "\xef\xbb"}
}

// P5.1: bytes that aren't UTF-8 are told where they stand, but in texts and in remarks of the second sort at the beginning of these.
func TestBytesThatArentUTF8(t *testing.T) {
	for _, b := range notUTF() {
		refuses(t, b, 0)
		refuses(t, "a"+b, 1)
		refuses(t, "1"+b, 1)
		refuses(t, "0x1"+b, 3)
		refuses(t, "=="+b+"=", 2)
		refuses(t, "a \u2028"+b+"x", 5)
		refuses(t, "'é'"+b, 4)
		refuses(t, "/*é*/"+b, 6)
		refuses(t, "//"+b, 2)
		refuses(t, "// é"+b, 5)
		refuses(t, "// é"+b+" \n#", 5)
		refuses(t, "a // */ '"+b+"'", 9)
		refuses(t, "// x\n"+b, 5)
		refuses(t, "// x\u2028"+b, 7)
		refuses(t, "'"+b+"'", 0)
		refuses(t, `a "é`+b+`" #`, 2)
		refuses(t, `"\`+b+`"`, 0)
		refuses(t, `"\x4`+b+`"`, 0)
		refuses(t, `"\u004`+b+`"`, 0)
		refuses(t, `"a`+b, 0)
		refuses(t, "/*"+b+"*/", 0)
		refuses(t, "a /* é"+b+"é */ #", 2)
		refuses(t, "/* \n"+b, 0)
		refuses(t, "/**"+b+"*/", 0)
	}
}

// P5.1: of several faults the first one, as it begins.
func TestFirstFaults(t *testing.T) {
	refuses(t, "# '", 0)
	refuses(t, "' #", 0)
	refuses(t, "'#\n'", 0)
	refuses(t, "a 01 #", 2)
	refuses(t, "a 1 '\\x' 01", 4)
	refuses(t, "/* # 01", 0)
	refuses(t, "1x /*", 0)
	refuses(t, "// # ' 01 /*\n 1x", 14)
	refuses(t, "/* # ' 01 // */ 1x", 16)
	refuses(t, "'# 01 // /*' 1x", 13)
}

// P5.1: no call panics, and each ends, at any bytes, and at any beginning of a script.
func TestAnyBytes(t *testing.T) {
	const script = `var a = 0x1F + .5e-3; /* é */ "x\u00e9\x41\0\
" // é`
	for i := range len(script) {
		for b := range 256 {
			src := script[:i] + string([]byte{byte(b)})
			list, at, e := Lex(src)
			if e != api.OK && (len(list) != 0 || at < 0 || at >= len(src)) || e == api.OK && at != 0 {
				t.Fatalf("%q: %+v, %d, %d", src, list, at, e)
			}
			Word(src)
			Name(src)
		}
	}
}

// P5.4: the lexemes of two calls share no memory, nor does what is behind them.
func TestNewMemory(t *testing.T) {
	const src = "a + 'b' ; 1 if x ="
	want, _, _ := Lex(src)
	for n := range len(want) {
		one, _, _ := Lex(src)
		two, _, _ := Lex(src)
		one[n] = api.Lexeme{Kind: -1}
		_ = append(one[:n], api.Lexeme{Kind: -2})
		full := one[:cap(one)]
		for i := range full {
			full[i].Text = "other"
		}
		three, _, _ := Lex(src)
		if !slices.Equal(two, want) || !slices.Equal(three, want) {
			t.Fatal(two, three)
		}
	}
}

// P5.1: the noughts are +0.
func TestNoughts(t *testing.T) {
	for _, src := range []string{"0", "0.", ".0", "0.0", "0e5", "0e-5", "0x0", "1e-400", "0.00000"} {
		list, _, e := Lex(src)
		if e != api.OK || len(list) != 1 || list[0].Num != 0 || math.Signbit(list[0].Num) {
			t.Error(src, list, e)
		}
	}
}
