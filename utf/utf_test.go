package utf

import (
	"strings"
	"testing"
	"unicode/utf16"
	"unicode/utf8"

	"pennant/api"
)

// wide is the wide text of these units.
func wide(units ...uint16) string {
	var b strings.Builder
	for _, u := range units {
		b.WriteByte(byte(u >> 8))
		b.WriteByte(byte(u))
	}
	return b.String()
}

// over is every sequence of at most most of the items, the empty one first.
func over[T any](items []T, most int) [][]T {
	all := [][]T{nil}
	last := all
	for range most {
		var next [][]T
		for _, s := range last {
			for _, x := range items {
				next = append(next, append(append([]T(nil), s...), x))
			}
		}
		all = append(all, next...)
		last = next
	}
	return all
}

// characters are all that UTF-8 can say.
func characters(see func(r rune)) {
	for r := rune(0); r <= 0x10FFFF; r++ {
		if r < 0xD800 || r > 0xDFFF {
			see(r)
		}
	}
}

// P1.1: Wide, of UTF-8.
func TestWideTellsUnits(t *testing.T) {
	for b, want := range map[string]string{
		"":                 "",
		"\x00":             wide(0),
		"aé":               wide(0x61, 0xE9),
		"\xf0\x9f\x98\x80": wide(0xD83D, 0xDE00),
		"\u07ff\u0800":     wide(0x7FF, 0x800),
		"\ud7ff\ue000":     wide(0xD7FF, 0xE000),
		"\ufeff\ufffd":     wide(0xFEFF, 0xFFFD),
		"\uffff\U00010000": wide(0xFFFF, 0xD800, 0xDC00),
		"\U000103ff":       wide(0xD800, 0xDFFF),
		"\U00010400":       wide(0xD801, 0xDC00),
		"x\U0010ffffy":     wide('x', 0xDBFF, 0xDFFF, 'y'),
		"\x7f\u0080":       wide(0x7F, 0x80),
	} {
		if w, at, e := Wide(b); w != want || at != 0 || e != api.OK {
			t.Errorf("Wide(%q): %q, %d, %d, not %q", b, w, at, e, want)
		}
	}
}

// notUTF are bytes that aren't UTF-8, and where the first such character begins.
func notUTF() map[string]int {
	return map[string]int{
		"a\xc0\x80":            1, // forms longer than the shortest
		"\xc1\xbf":             0,
		"\xe0\x80\x80":         0,
		"ab\xe0\x9f\xbf":       2,
		"\xf0\x80\x80\x80":     0,
		"é\xf0\x8f\xbf\xbf":    2,
		"\xed\xa0\x80":         0, // D800 to DFFF
		"x\xed\xaf\xbf":        1,
		"x\xed\xb0\x80":        1,
		"\xed\xbf\xbf":         0,
		"\xed\xa0\xbd\xed\xb8": 0,
		"\xf4\x90\x80\x80":     0, // above 10FFFF
		"€\xf5\x80\x80\x80":    3,
		"\xf8\x88\x80\x80\x80": 0,
		"\xfe":                 0,
		"abc\xff":              3,
		"\xc3":                 0, // the end within a character
		"aé\xe2\x82":           3,
		"\xe2":                 0,
		"\xf0\x9f\x98":         0,
		"\U0001f600\xf0\x9f":   4,
		"\x80":                 0, // no beginning of a character
		"é\xa9":                2,
		"\xc3a":                0, // another one ahead of its end
		"\xe2\x82a":            0,
		"a\xf0\x9f\x98a":       1,
		"\xc3\xc3\xa9":         0,
		"\xff\xfe\xc0":         0, // the first of several
	}
}

// P1.1: Wide, of what isn't UTF-8: the place, and no text.
func TestWideTellsWhereItEnds(t *testing.T) {
	for b, place := range notUTF() {
		if w, at, e := Wide(b); w != "" || at != place || e != api.ErrUTF {
			t.Errorf("Wide(%q): %q, %d, %d, not ErrUTF at %d", b, w, at, e, place)
		}
	}
}

// P1.1: of all texts of these bytes Wide takes those that are UTF-8, and tells of the others where the first fault is.
func TestWideOfManyBytes(t *testing.T) {
	edges := []byte{0, 'a', 0x7F, 0x80, 0x8F, 0x90, 0x9F, 0xA0, 0xBF, 0xC0, 0xC2, 0xE0, 0xED, 0xF0, 0xF4, 0xF5}
	for _, s := range over(edges, 4) {
		b := string(s)
		want, place := "", -1
		for i, r := range b {
			if _, size := utf8.DecodeRuneInString(b[i:]); r == utf8.RuneError && size == 1 {
				place = i
				break
			}
			want += wide(utf16.Encode([]rune{r})...)
		}
		w, at, e := Wide(b)
		if place < 0 && (w != want || at != 0 || e != api.OK) {
			t.Fatalf("Wide(%q): %q, %d, %d, not %q", b, w, at, e, want)
		}
		if place >= 0 && (w != "" || at != place || e != api.ErrUTF) {
			t.Fatalf("Wide(%q): %q, %d, %d, not ErrUTF at %d", b, w, at, e, place)
		}
	}
}

// P1.1: Narrow, lone halves of pairs too.
func TestNarrowTellsCharacters(t *testing.T) {
	const lone = "\xef\xbf\xbd"
	for w, want := range map[string]string{
		"":                                    "",
		wide(0):                               "\x00",
		wide(0x61, 0xE9, 0x20AC):              "aé€",
		wide(0xD7FF, 0xE000, 0xFFFF):          "\ud7ff\ue000\uffff",
		wide(0xFFFD):                          lone,
		wide(0xD83D, 0xDE00):                  "\xf0\x9f\x98\x80",
		wide(0xD800, 0xDC00):                  "\U00010000",
		wide(0xDBFF, 0xDFFF):                  "\U0010ffff",
		wide(0xD83D):                          lone,
		wide(0xDE00):                          lone,
		wide(0xDE00, 0xD83D):                  lone + lone,
		wide(0xD83D, 'a'):                     lone + "a",
		wide('a', 0xDE00, 'b'):                "a" + lone + "b",
		wide(0xD83D, 0xD83D, 0xDE00):          lone + "\U0001f600",
		wide(0xD83D, 0xDE00, 0xDE00):          "\U0001f600" + lone,
		wide(0xD83D, 'a', 0xDE00):             lone + "a" + lone,
		wide(0xDBFF, 0xE000):                  lone + "\ue000",
		wide(0xD7FF, 0xDC00):                  "\ud7ff" + lone,
		wide(0xD83D, 0xDE00, 0xD83D, 0xDE01):  "\U0001f600\U0001f601",
		wide(0xDC00, 0xD800, 0xDC00, 0xD800):  lone + "\U00010000" + lone,
		wide('x', 0xDFFF, 0xDBFF, 'y', 'z'):   "x" + lone + lone + "yz",
		wide(0xD800, 0xDBFF, 0xDC00, 0xDFFF):  lone + "\U0010fc00" + lone,
		wide(0xDBFF, 0xDBFF, 0xDBFF, 0x10FF):  lone + lone + lone + "\u10ff",
		wide(0xDFFF, 0xDFFF, 0xD800, 0xDFFF):  lone + lone + "\U000103ff",
		wide(0xFEFF, 0xD83D, 0xDE00, 0xFEFF):  "\ufeff\U0001f600\ufeff",
		wide(0x0800, 0x07FF, 0x0080, 0x007F):  "\u0800\u07ff\u0080\x7f",
		wide('p', 'e', 'n', 'n', 'a', 'n', 0): "pennan\x00",
	} {
		if b, e := Narrow(w); b != want || e != api.OK {
			t.Errorf("Narrow(%q): %q, %d, not %q", w, b, e, want)
		}
	}
}

// P1.1: Narrow, of an odd number of bytes.
func TestNarrowOfOddBytes(t *testing.T) {
	for _, w := range []string{"a", "\x00a\x00", "\xd8", "\xd8\x3d\xde", "\x00a\x00b\xff"} {
		if b, e := Narrow(w); b != "" || e != api.ErrWide {
			t.Errorf("Narrow(%q): %q, %d, not ErrWide", w, b, e)
		}
	}
}

// P1.1: Next, at beginnings of characters and elsewhere.
func TestNextTellsACharacter(t *testing.T) {
	type answer struct {
		c, size int
		ok      bool
	}
	none := answer{}
	const b = "aé€\U0001f600\xff\ufffd\xe2\x82"
	want := []answer{
		{'a', 1, true}, {0xE9, 2, true}, none, {0x20AC, 3, true}, none, none,
		{0x1F600, 4, true}, none, none, none, none, {0xFFFD, 3, true}, none, none, none, none, none,
	}
	for i, a := range want {
		if c, size, ok := Next(b, i); (answer{c, size, ok}) != a {
			t.Errorf("Next at %d: %d, %d, %t, not %v", i, c, size, ok, a)
		}
	}
	for _, i := range []int{-1, minInt, len(b), len(b) + 1, maxInt} {
		if c, size, ok := Next(b, i); (answer{c, size, ok}) != none {
			t.Errorf("Next at %d: %d, %d, %t", i, c, size, ok)
		}
	}
	if c, size, ok := Next("", 0); (answer{c, size, ok}) != none {
		t.Errorf("Next of nothing: %d, %d, %t", c, size, ok)
	}
	if c, size, ok := Next("\x00", 0); (answer{c, size, ok}) != (answer{0, 1, true}) {
		t.Errorf("Next of a byte 0: %d, %d, %t", c, size, ok)
	}
}

// P1.1: no character begins where Wide says so.
func TestNextOfWhatIsNotUTF(t *testing.T) {
	for b, place := range notUTF() {
		if c, size, ok := Next(b, place); c != 0 || size != 0 || ok {
			t.Errorf("Next(%q, %d): %d, %d, %t", b, place, c, size, ok)
		}
	}
}

// P1.2: each character, there and back.
func TestThereAndBackOfCharacters(t *testing.T) {
	characters(func(r rune) {
		b := string(r)
		w, _, e := Wide(b)
		if w != wide(utf16.Encode([]rune{r})...) || e != api.OK {
			t.Fatalf("Wide of %x: %q, %d", r, w, e)
		}
		if back, e := Narrow(w); back != b || e != api.OK {
			t.Fatalf("%x comes back as %q, %d", r, back, e)
		}
		if c, size, ok := Next(b, 0); c != int(r) || size != len(b) || !ok {
			t.Fatalf("Next of %x: %d, %d, %t", r, c, size, ok)
		}
	})
}

// P1.2: texts of several characters, there and back.
func TestThereAndBackOfTexts(t *testing.T) {
	edges := []rune{0, 'a', 0x7F, 0x80, 0x7FF, 0x800, 0xD7FF, 0xE000, 0xFFFD, 0xFFFF, 0x10000, 0x1F600, 0x10FFFF}
	for _, s := range over(edges, 3) {
		b := string(s)
		w, _, e := Wide(b)
		back, f := Narrow(w)
		if e != api.OK || f != api.OK || back != b {
			t.Fatalf("%q comes back as %q, %d, %d", b, back, e, f)
		}
	}
}

// P1.2: texts of any units, back and there: they stay where each half has its other one, and lone halves come back as FFFD.
func TestBackAndThere(t *testing.T) {
	edges := []uint16{0, 'a', 0xD7FF, 0xD800, 0xDBFF, 0xDC00, 0xDFFF, 0xE000, 0xFFFD, 0xFFFF}
	for _, s := range over(edges, 4) {
		w := wide(s...)
		b, e := Narrow(w)
		there, _, f := Wide(b)
		want := wide(utf16.Encode(utf16.Decode(s))...)
		if e != api.OK || f != api.OK || there != want || Length(there) != len(s) {
			t.Fatalf("%x: %q, %q, %d, %d", s, b, there, e, f)
		}
	}
}

// P1.3: Wide of two texts joined is both joined; where one isn't UTF-8 the place tells so.
func TestWideOfJoinedTexts(t *testing.T) {
	for _, a := range []string{"", "a", "aé€", "\U0001f600", "\U0001f600\x00", "\xff", "x\xc3"} {
		for _, b := range []string{"", "z", "é", "\U0010ffff\ue000", "\xa9", "é\xff"} {
			v, p, e := Wide(a)
			w, q, f := Wide(b)
			both, at, g := Wide(a + b)
			switch {
			case e == api.OK && f == api.OK:
				if both != v+w || at != 0 || g != api.OK {
					t.Errorf("Wide(%q): %q, %d, %d", a+b, both, at, g)
				}
			case e == api.OK:
				if both != "" || at != len(a)+q || g != api.ErrUTF {
					t.Errorf("Wide(%q): %q, %d, %d", a+b, both, at, g)
				}
			case a != "x\xc3" || b != "\xa9": // these two halves make one character
				if both != "" || at != p || g != api.ErrUTF {
					t.Errorf("Wide(%q): %q, %d, %d", a+b, both, at, g)
				}
			}
		}
	}
}

// Long texts are turned whole, and a fault at their end is found.
func TestLongTexts(t *testing.T) {
	b := strings.Repeat("aé€\U0001f600", 20000)
	w, at, e := Wide(b)
	if at != 0 || e != api.OK || Length(w) != 100000 {
		t.Fatal(at, e, Length(w))
	}
	if back, e := Narrow(w); back != b || e != api.OK {
		t.Error("a long text doesn't come back", e)
	}
	if w, at, e := Wide(b + "\xed\xa0\x80"); w != "" || at != len(b) || e != api.ErrUTF {
		t.Error(len(w), at, e)
	}
}
