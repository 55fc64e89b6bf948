package eslex

import (
	"math/big"
	"math/rand"
	"regexp"
	"slices"
	"strconv"
	"strings"
	"testing"
	"unicode/utf8"

	"pennant/api"
)

// An outcome is what a script brings: lexemes, or a fault and its place.
type outcome struct {
	list []api.Lexeme
	at   int
	e    api.Errno
}

func (a outcome) same(b outcome) bool {
	return a.at == b.at && a.e == b.e && slices.Equal(a.list, b.list)
}

// A second reader, made of patterns.
type patterns struct {
	blank, end, short, long, name, sixteens, decimal, goesOn, mark, inText *regexp.Regexp
	words                                                                  []string
}

func newPatterns() patterns {
	longest := func(s string) *regexp.Regexp {
		r := regexp.MustCompile(`^(?:` + s + `)`)
		r.Longest()
		return r
	}
	var marks []string
	for _, m := range allMarks() {
		marks = append(marks, regexp.QuoteMeta(m))
	}
	return patterns{
		blank:    longest(`[\x09\x0B\x0C\x20\x{A0}\x{FEFF}]`),
		end:      longest(`[\x0A\x0D\x{2028}\x{2029}]`),
		short:    longest(`//[^\x0A\x0D\x{2028}\x{2029}]*`),
		long:     regexp.MustCompile(`^(?s:/\*.*?\*/)`),
		name:     longest(`[A-Za-z_$][A-Za-z0-9_$]*`),
		sixteens: longest(`0[xX]([0-9a-fA-F]+)`),
		decimal:  longest(`(?:(?:0|[1-9][0-9]*)(?:\.[0-9]*)?|\.[0-9]+)(?:[eE][+-]?[0-9]+)?`),
		goesOn:   longest(`[A-Za-z0-9_$]`),
		mark:     longest(strings.Join(marks, "|")),
		inText:   longest(`\\x[0-9a-fA-F]{2}|\\u[0-9a-fA-F]{4}|\\0|\\\x0D\x0A|\\[^0-9xu]|[^\\\x0A\x0D]`),
		words:    allWords(),
	}
}

func (p patterns) read(src string) outcome {
	if len(src) > api.MaxSource {
		return outcome{e: api.ErrLong}
	}
	var list []api.Lexeme
	line := false
	for i := 0; i < len(src); {
		if size, ends, wrong := p.gap(src[i:]); size > 0 || wrong >= 0 {
			if wrong >= 0 {
				return outcome{at: i + wrong, e: api.ErrLex}
			}
			line = line || ends
			i += size
			continue
		}
		x, size := p.lexeme(src[i:])
		if size == 0 {
			return outcome{at: i, e: api.ErrLex}
		}
		x.At, x.Line = i, line
		list = append(list, x)
		line = false
		i += size
	}
	return outcome{list: list}
}

// gap is one blank, line end or remark: its size, whether a line ends there, and where it is wrong (-1: nowhere).
func (p patterns) gap(s string) (int, bool, int) {
	if m := p.blank.FindString(s); m != "" {
		return len(m), false, -1
	}
	if m := p.end.FindString(s); m != "" {
		return len(m), true, -1
	}
	if m := p.short.FindString(s); m != "" {
		return len(m), false, firstWrong(m)
	}
	if strings.HasPrefix(s, "/*") {
		m := p.long.FindString(s)
		if m == "" || !utf8.ValidString(m) {
			return 0, false, 0
		}
		return len(m), strings.ContainsAny(m, "\n\r\u2028\u2029"), -1
	}
	return 0, false, -1
}

// firstWrong is where the first bytes stand that aren't UTF-8, or -1.
func firstWrong(s string) int {
	for i, r := range s {
		if _, size := utf8.DecodeRuneInString(s[i:]); r == utf8.RuneError && size == 1 {
			return i
		}
	}
	return -1
}

func (p patterns) lexeme(s string) (api.Lexeme, int) {
	if m := p.name.FindString(s); m != "" {
		kind := api.LexName
		if slices.Contains(p.words, m) {
			kind = api.LexWord
		}
		return api.Lexeme{Kind: kind, Text: m}, len(m)
	}
	if m := p.decimal.FindString(s); m != "" {
		return p.number(s, m)
	}
	if s[0] == '"' || s[0] == '\'' {
		return p.text(s)
	}
	m := p.mark.FindString(s)
	return api.Lexeme{Kind: api.LexMark, Text: m}, len(m)
}

func (p patterns) number(s, decimal string) (api.Lexeme, int) {
	x, _ := strconv.ParseFloat(decimal, 64)
	size := len(decimal)
	if m := p.sixteens.FindStringSubmatch(s); m != nil {
		n, _ := new(big.Int).SetString(m[1], 16)
		x, _ = new(big.Float).SetInt(n).Float64()
		size = len(m[0])
	}
	if p.goesOn.MatchString(s[size:]) {
		return api.Lexeme{}, 0
	}
	return api.Lexeme{Kind: api.LexNum, Num: x}, size
}

func (p patterns) text(s string) (api.Lexeme, int) {
	said := ""
	for i := 1; i < len(s); {
		if s[i] == s[0] {
			return api.Lexeme{Kind: api.LexText, Text: said}, i + 1
		}
		m := p.inText.FindString(s[i:])
		i += len(m)
		if m == "" || !utf8.ValidString(m) || m == `\0` && i < len(s) && strings.Contains("0123456789", s[i:i+1]) {
			break
		}
		said += p.meaning(m)
	}
	return api.Lexeme{}, 0
}

// meaning is the wide text that one thing in a text says.
func (p patterns) meaning(m string) string {
	if m[0] != '\\' {
		return wide(m)
	}
	m = m[1:]
	if (m[0] == 'x' || m[0] == 'u') && len(m) > 1 {
		u, _ := strconv.ParseUint(m[1:], 16, 16)
		return wideOf(uint16(u))
	}
	if p.end.MatchString(m) {
		return ""
	}
	return wide(strings.NewReplacer("b", "\b", "t", "\t", "n", "\n", "v", "\v", "f", "\f", "r", "\r", "0", "\x00").Replace(m))
}

// hold holds both readers against each other.
func (p patterns) hold(t *testing.T, src string) outcome {
	t.Helper()
	list, at, e := Lex(src)
	got, want := outcome{list, at, e}, p.read(src)
	if !got.same(want) {
		t.Fatalf("%q: %+v, not %+v", src, got, want)
	}
	return got
}

// P5.1: all scripts of a few of these pieces.
func TestAllShortScripts(t *testing.T) {
	p := newPatterns()
	for _, set := range [][]string{
		{"a", "0", "1", ".", "e", "x", "+", "F", " ", "é"},
		{"'", `"`, `\`, "0", "x", "u", "4", "n", "\r", "\n", "\u2028", "\xff"},
		{"/", "*", "\n", "\r", " ", "a", "\u2029", "\xe2\x80", "=", "'"},
		{"<", ">", "=", "!", "&", "|", "+", "-", "*", "%"},
	} {
		scripts := []string{""}
		for range 5 {
			var next []string
			for _, s := range scripts {
				for _, piece := range set {
					p.hold(t, s+piece)
					next = append(next, s+piece)
				}
			}
			scripts = next
		}
	}
}

// P5.1: scripts by dice.
func TestScriptsByDice(t *testing.T) {
	p := newPatterns()
	dice := rand.New(rand.NewSource(1))
	rough := append(pieces(), notUTF()...)
	rough = append(rough, "'", `"`, `\`, "//", "/*", "*/", "\n", "\r\n", " ", " ", " ", ".", "e", "x", "0", "9", "é", "\U0001f600", "\u2028", "\ufeff", "#", "\x00", `\x41`, `\u00e9`, `\u`, `\x`, `\0`, "1e+", "0x")
	smooth := append(pieces(), " ", " ", "\n", "/* x */", "// y\n", "/*\n*/")
	right, wrong := 0, 0
	for n := range 100000 {
		set := smooth
		if n%2 == 0 {
			set = rough
		}
		var src strings.Builder
		for range dice.Intn(12) {
			src.WriteString(set[dice.Intn(len(set))])
		}
		if p.hold(t, src.String()).e == api.OK {
			right++
		} else {
			wrong++
		}
	}
	if right < 20000 || wrong < 20000 {
		t.Error(right, wrong)
	}
}

// P5.1: scripts of any bytes by dice, long ones too.
func TestBytesByDice(t *testing.T) {
	p := newPatterns()
	dice := rand.New(rand.NewSource(2))
	for range 20000 {
		b := make([]byte, dice.Intn(20))
		for i := range b {
			b[i] = byte(dice.Intn(256))
		}
		p.hold(t, string(b))
		p.hold(t, "'"+string(b)+"'")
		p.hold(t, "/*"+string(b)+"*/a")
		p.hold(t, "//"+string(b)+"\na")
	}
	smooth := append(pieces(), "\n", " ")
	for range 50 {
		var src strings.Builder
		for src.Len() < api.MaxSource-dice.Intn(200) {
			src.WriteString(smooth[dice.Intn(len(smooth))] + " ")
		}
		p.hold(t, src.String())
	}
}
