package eslex

import (
	"fmt"
	"math"
	"strings"
	"testing"

	"pennant/api"
)

// P5.1: numbers, alone, and with what may stand at their sides.
func TestNumbers(t *testing.T) {
	for src, x := range map[string]float64{
		"0": 0, "1": 1, "9": 9, "10": 10, "1234567890": 1234567890, "100": 100,
		"0.": 0, "5.": 5, "10.": 10, ".0": 0, ".5": .5, ".05": .05, "0.5": .5, "0.00": 0, "1.25": 1.25, "10.010": 10.01, ".123456789": .123456789,
		"0e0": 0, "0e5": 0, "1e3": 1000, "1E3": 1000, "1e+3": 1000, "1e-3": .001, "1E+3": 1000, "1E-3": .001, "1e03": 1000, "1e000": 1, "1e10": 1e10, "1.e1": 10, "1.5e1": 15, ".5e1": 5, ".5E-1": .05, "0.5e+1": 5, "0.e1": 0, "12e-1": 1.2,
		"0x0": 0, "0X0": 0, "0x1F": 31, "0x1f": 31, "0XaBcDeF": 0xABCDEF, "0x00001": 1, "0x9": 9, "0xe5": 0xE5, "0x1e5": 0x1E5, "0xA": 10, "0xF": 15, "0xff": 255, "0x0123456789abcdef": 0x0123456789ABCDEF,
		"9007199254740993": 9007199254740992, "0x20000000000001": 9007199254740992, "0x20000000000003": 9007199254740996, "0.1": .1, "1e21": 1e21, "1e23": 1e23, "5e-324": 5e-324, "2e-324": 0, "1e-400": 0, "1.7976931348623157e308": math.MaxFloat64, "1e309": math.Inf(1), "1e400": math.Inf(1), "1e99999999999": math.Inf(1), "0e99999999999": 0,
	} {
		size := len(src)
		tells(t, src, numAt(0, x))
		tells(t, "-"+src+"-", markAt(0, "-"), numAt(1, x), markAt(1+size, "-"))
		tells(t, "("+src+")", markAt(0, "("), numAt(1, x), markAt(1+size, ")"))
		tells(t, "a "+src+"'b'", nameAt(0, "a"), numAt(2, x), textAt(2+size, wide("b")))
		tells(t, src+"/**/a", numAt(0, x), nameAt(4+size, "a"))
		tells(t, src+"\u00a0"+src, numAt(0, x), numAt(2+size, x))
		tells(t, "/**/"+src+"//", numAt(4, x))
		refuses(t, src+"é", size)
		refuses(t, src+"\\u0061", size)
	}
}

// P5.1: what ends a number, and is no fault.
func TestBehindNumbers(t *testing.T) {
	tells(t, "0x1.5", numAt(0, 1), numAt(3, .5))
	tells(t, "0x1.", numAt(0, 1), markAt(3, "."))
	tells(t, "0x1.a", numAt(0, 1), markAt(3, "."), nameAt(4, "a"))
	tells(t, "0x1e+5", numAt(0, 0x1E), markAt(4, "+"), numAt(5, 5))
	tells(t, "1e5.5", numAt(0, 1e5), numAt(3, .5))
	tells(t, "1e5.", numAt(0, 1e5), markAt(3, "."))
	tells(t, "1e5.a", numAt(0, 1e5), markAt(3, "."), nameAt(4, "a"))
	tells(t, "1+1", numAt(0, 1), markAt(1, "+"), numAt(2, 1))
	tells(t, "1e1+1", numAt(0, 10), markAt(3, "+"), numAt(4, 1))
	tells(t, "0..0", numAt(0, 0), numAt(2, 0))
	tells(t, "0.5.5", numAt(0, .5), numAt(3, .5))
	tells(t, "1[0]", numAt(0, 1), markAt(1, "["), numAt(2, 0), markAt(3, "]"))
	tells(t, "0\n1", numAt(0, 0), lined(numAt(2, 1)))
	tells(t, "0?1:2", numAt(0, 0), markAt(1, "?"), numAt(2, 1), markAt(3, ":"), numAt(4, 2))
}

// P5.1: numbers that aren't right.
func TestWrongNumbers(t *testing.T) {
	for _, src := range strings.Fields(`
		00 01 07 08 09 010 0123 00.5 01.5 01e1 001 00x1 00e1
		1a 1_ 1$ 0a 0_ 0$ 1Z 12z 1x 1x1 1n 0n 1_0 0_1 1b 3in 1if 10a 1F 0b1 0B1 0o7 0O7 0f
		1e 1E 0e 0E 1e+ 1e- 1E+ 1E- 1ea 1e_ 1e$ 1ee1 1e.5 1e+.5 1e+a 1e++1 1e--1 1e+-1 .5e .5e+ 5.e 5.e- 1.5e 1.5e+ 0.e 1.ex
		1.a 1._ 1.$ 1.5a 1.5_ .5a .5_ .5$ 1.toString 1.e5a 5.a1 0.a 0.x1 0.0x1 .0x1 .5.5a
		1e5a 1e5_ 1e5e5 1e1e 1e+5x 1e5$ 1.5e1a .5e1_ 1e1f
		0x 0X 0x. 0x.5 0x+1 0x-1 0xg 0xG 0x_ 0x$ 0xg1 0x1g 0x1G 0x1_ 0x1$ 0x1x 0x1h 0x0x1 0x_1 0xx1 0Xz 0x1z 0xfg 0x1p1 0xé
	`) {
		want := 0
		if src == ".5.5a" {
			want = len(".5")
		}
		refuses(t, src, want)
		refuses(t, src+";", want)
		refuses(t, src+" #", want)
		refuses(t, src+"\n", want)
		refuses(t, "a["+src+"]", 2+want)
	}
}

// P5.1: texts of plain characters, in either mark.
func TestTexts(t *testing.T) {
	for _, s := range []string{"", "a", "abc", " ", "  a  ", "é", "€", "\U0001f600", "a\U0010ffffb", "\ufffd", "\uffff", "\u2028", "\u2029", "\ufeff\u00a0", "\x00", "\t\v\f", "\x01\x1f\x7f", "//", "/* */", "/*", "0x", "#@`", "a1+=", "if", "01", "\u0080\u0085", "\u07ff\u0800\ud7ff\ue000"} {
		for _, mark := range []string{"'", `"`} {
			other := `'"`
			other = strings.Replace(other, mark, "", 1)
			for _, inside := range []string{s, other, other + s, s + other + other} {
				src := mark + inside + mark
				tells(t, src, textAt(0, wide(inside)))
				tells(t, src+src, textAt(0, wide(inside)), textAt(len(src), wide(inside)))
				tells(t, "a="+src+"+1", nameAt(0, "a"), markAt(1, "="), textAt(2, wide(inside)), markAt(2+len(src), "+"), numAt(3+len(src), 1))
			}
		}
	}
}

// P5.1: what a \ and what follows it say.
func TestEscapes(t *testing.T) {
	for src, want := range map[string]string{
		`\b`: "\x08", `\t`: "\t", `\n`: "\n", `\v`: "\v", `\f`: "\f", `\r`: "\r",
		`\0`: "\x00", `\0a`: "\x00a", `\0 0`: "\x00 0", `\0\0`: "\x00\x00", `\0é`: "\x00é", `\0x`: "\x00x", `\0/`: "\x00/", `\0:`: "\x00:",
		`\x41`: "A", `\x00`: "\x00", `\xff`: "\u00ff", `\xFF`: "\u00ff", `\xaB`: "\u00ab", `\x411`: "A1", `\x4142`: "A42", `\x09`: "\t", `\x0a\x0d`: "\n\r", `\x22\x27`: `"'`, `\x5c`: `\`,
		`\u0041`: "A", `\u00e9`: "é", `\u00E9`: "é", `\u20ac`: "€", `\uFFFF`: "\uffff", `\u00411`: "A1", `\u000a`: "\n", `\u2028`: "\u2028", `\ud83d\ude00`: "\U0001f600", `\uabcd\uef09`: "\uabcd\uef09",
		"\\\n": "", "\\\r": "", "\\\r\n": "", "\\\u2028": "", "\\\u2029": "", "a\\\nb": "ab", "a\\\r\nb": "ab", "\\\n\\\n": "", "\\\n\\\r": "", "\\\r\\\n": "", "\\\r\n\\\r\n": "", "\\\u2028\u2028": "\u2028",
		`\'`: "'", `\"`: `"`, `\\`: `\`, `\\\\`: `\\`, `\\n`: `\n`, `\/`: "/", `\a`: "a", `\c`: "c", `\e`: "e", `\s`: "s", `\w`: "w", `\z`: "z", `\B`: "B", `\N`: "N", `\R`: "R", `\T`: "T", `\U`: "U", `\X`: "X", `\X41`: "X41", `\U0041`: "U0041", `\V`: "V", `\F`: "F", `\ `: " ", `\$`: "$", `\_`: "_", `\{`: "{", `\é`: "é", "\\\U0001f600": "\U0001f600", "\\\x00": "\x00", "\\\t": "\t", "\\\v": "\v", "\\\u00a0": "\u00a0", "\\\ufeff": "\ufeff", "\\\ufffd": "\ufffd", `\:`: ":", `\/\` + "\n": "/",
	} {
		for _, mark := range []string{"'", `"`} {
			text := mark + src + mark
			tells(t, text, textAt(0, wide(want)))
			tells(t, mark+"é"+src+"x"+text[:1], textAt(0, wide("é"+want+"x")))
			tells(t, text+"a", textAt(0, wide(want)), nameAt(len(text), "a"))
		}
	}
}

// P5.1: lone units of pairs are told as they stand.
func TestLoneUnits(t *testing.T) {
	tells(t, `"\ud83d"`, textAt(0, wideOf(0xD83D)))
	tells(t, `"\ude00\ud83d"`, textAt(0, wideOf(0xDE00, 0xD83D)))
	tells(t, `"\uD800x\uDFFF"`, textAt(0, wideOf(0xD800, 'x', 0xDFFF)))
}

// P5.1: texts that aren't right are told at their beginning.
func TestWrongTexts(t *testing.T) {
	for _, inside := range []string{
		"\n", "\r", "\r\n", "a\nb", "a\rb", "\\\n\n", "\\\n\r", "\\\r\r", "\\\r\n\n", "\\\r\n\r", "\\\u2028\n", "\\a\n",
		`\1`, `\2`, `\3`, `\4`, `\5`, `\6`, `\7`, `\8`, `\9`, `\00`, `\01`, `\07`, `\08`, `\09`, `a\1b`, `\10`, `\0\1`,
		`\x`, `\x4`, `\xg`, `\x4g`, `\xg4`, `\x `, `\x 4`, `\x+4`, `\x-1`, `\x_1`, `\x1_`, `\x0x`, `\x\x41`, `\x4é`, `\xé`, `\x4\n`,
		`\u`, `\u0`, `\u00`, `\u004`, `\u004g`, `\ug004`, `\u004 `, `\u 041`, `\u+041`, `\u-041`, `\u0x41`, `\u_041`, `\u0_41`, `\u{41}`, `\u{0041}`, `\u004é`, `\u\u0041`, `\u00\x41`, "\\u004\n",
	} {
		for _, mark := range []string{"'", `"`} {
			refuses(t, mark+inside+mark, 0)
			refuses(t, mark+"é"+inside+mark+" #", 0)
			refuses(t, "a="+mark+inside+mark, 2)
		}
	}
}

// P5.1: texts that don't end.
func TestTextsWithoutEnd(t *testing.T) {
	for _, src := range []string{`'`, `"`, `'a`, `"a`, `'"`, `"'`, `'a"`, `"a'`, `'\`, `"\`, `'\'`, `"\"`, `'\\\'`, `'a\x41`, `'\x`, `'\x4`, `'\u`, `'\u004`, `'\u0041`, `'\0`, "'\\\n", "'\\\r", "'\\\r\n", "'é", "'\u2028", `'a\x4'`, `"\u004"`} {
		refuses(t, src, 0)
		refuses(t, "'b' "+src, 4)
	}
}

// P5.3: any wide text, each unit written out, is told as it is.
func TestWrittenOut(t *testing.T) {
	const most = (api.MaxSource - 2) / 6
	for first := 0; first <= 0xFFFF; first += most {
		var units []uint16
		for u := first; u <= 0xFFFF && u < first+most; u++ {
			units = append(units, uint16(u))
		}
		writtenOut(t, units)
	}
	for _, units := range [][]uint16{
		nil, {0}, {0xFFFF}, {'"'}, {'\''}, {'\\'}, {10}, {13}, {13, 10}, {0x2028, 0x2029}, {0xD800}, {0xDC00}, {0xD83D, 0xDE00}, {0xDE00, 0xD83D}, {0xD800, 0xD800, 0xDC00, 0xDC00}, {0xFEFF, 0xFFFE, 0xFFFD}, {'\\', 'u'}, {'*', '/'}, {0, '0', 0, '9'}, {0xDBFF, 'x', 0xDFFF},
	} {
		writtenOut(t, units)
	}
}

func writtenOut(t *testing.T, units []uint16) {
	t.Helper()
	for _, form := range []string{`\u%04x`, `\u%04X`} {
		var b strings.Builder
		for _, u := range units {
			fmt.Fprintf(&b, form, u)
		}
		tells(t, `"`+b.String()+`"`, textAt(0, wideOf(units...)))
		tells(t, `'`+b.String()+`'`, textAt(0, wideOf(units...)))
	}
}
