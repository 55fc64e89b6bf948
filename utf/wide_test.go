package utf

import (
	"strings"
	"testing"
)

const (
	maxInt = int(^uint(0) >> 1)
	minInt = -maxInt - 1
)

// P1.1: lengths, of an odd number of bytes too.
func TestLengthCountsWholeUnits(t *testing.T) {
	for w, want := range map[string]int{
		"":                      0,
		"a":                     0,
		"\x00a":                 1,
		"\x00a\x00":             1,
		"\xd8\x3d\xde\x00":      2,
		"\x00\x00\x00\x00\x00":  2,
		wide(1, 2, 3, 4, 5):     5,
		wide(0xD83D, 0xD83D, 0): 3,
	} {
		if n := Length(w); n != want {
			t.Errorf("Length(%q): %d, not %d", w, n, want)
		}
	}
}

// P1.1: units, and places where there is none.
func TestAtTellsAUnit(t *testing.T) {
	w := wide(0, 'a', 0xE9, 0x100, 0xD83D, 0xFFFF)
	for i, want := range []int{0, 'a', 0xE9, 0x100, 0xD83D, 0xFFFF} {
		for _, text := range []string{w, w + "\xff"} {
			if u, ok := At(text, i); u != want || !ok {
				t.Errorf("At(%q, %d): %d, %t, not %d", text, i, u, ok, want)
			}
		}
	}
	for _, i := range []int{-1, -6, minInt, 6, 7, maxInt, maxInt/2 + 1, maxInt / 2} {
		for _, text := range []string{w, w + "\xff"} {
			if u, ok := At(text, i); u != 0 || ok {
				t.Errorf("At(%q, %d): %d, %t", text, i, u, ok)
			}
		}
	}
	if u, ok := At("a", 0); u != 0 || ok {
		t.Errorf("At of one byte: %d, %t", u, ok)
	}
	if u, ok := At("", 0); u != 0 || ok {
		t.Errorf("At of nothing: %d, %t", u, ok)
	}
}

// P1.1: parts, by numbers in and out of the text.
func TestCutTellsAPart(t *testing.T) {
	abc := wide('a', 'b', 'c')
	for _, c := range []struct {
		from, to int
		want     string
	}{
		{0, 3, abc}, {1, 9, wide('b', 'c')}, {2, 1, ""}, {1, 1, ""}, {0, 1, wide('a')}, {1, 2, wide('b')}, {2, 3, wide('c')},
		{-1, 1, wide('a')}, {-9, 9, abc}, {-2, -1, ""}, {0, 0, ""}, {3, 3, ""}, {3, 9, ""}, {4, 9, ""}, {9, 4, ""}, {2, -1, ""},
		{minInt, maxInt, abc}, {maxInt, minInt, ""}, {0, maxInt, abc}, {maxInt/2 + 1, maxInt, ""}, {minInt, minInt/2 - 1, ""}, {1, maxInt/2 + 2, wide('b', 'c')},
	} {
		for _, text := range []string{abc, abc + "d"} {
			if part := Cut(text, c.from, c.to); part != c.want {
				t.Errorf("Cut(%q, %d, %d): %q, not %q", text, c.from, c.to, part, c.want)
			}
		}
	}
	for _, w := range []string{"", "a"} {
		if part := Cut(w, 0, 1); part != "" {
			t.Errorf("Cut(%q, 0, 1): %q", w, part)
		}
	}
}

// P1.1: Find, with its edges.
func TestFindTellsTheLeastPlace(t *testing.T) {
	ab, abab := wide('a', 'b'), wide('a', 'b', 'a', 'b')
	for _, c := range []struct {
		w, part string
		from    int
		want    int
	}{
		{abab, ab, 0, 0}, {abab, ab, 1, 2}, {abab, ab, 2, 2}, {abab, ab, 3, -1}, {abab, ab, 4, -1}, {abab, ab, 5, -1},
		{abab, ab, -1, 0}, {abab, ab, minInt, 0}, {abab, ab, maxInt, -1}, {abab, ab, maxInt/2 + 1, -1},
		{ab, "", 9, -1}, {ab, "", 3, -1}, {ab, "", 2, 2}, {ab, "", 1, 1}, {ab, "", 0, 0}, {ab, "", -5, 0}, {ab, "", minInt, 0}, {ab, "", maxInt, -1},
		{"", "", 0, 0}, {"", "", 1, -1}, {"", "", -1, 0}, {"", ab, 0, -1}, {ab, abab, 0, -1}, {ab, abab, minInt, -1},
		{ab, wide('c'), 0, -1}, {ab, ab, 0, 0}, {ab, ab, 1, -1}, {abab, wide('b', 'a', 'b'), 0, 1}, {abab, wide('b', 'b'), 0, -1},
		{wide('a', 'a', 'b'), wide('a', 'b'), 0, 1}, {wide('a', 'a', 'a'), wide('a', 'a'), 1, 1},
		// The part's bytes stand there, but across units.
		{wide(0x0061, 0x0062), wide(0x6100), 0, -1}, {wide(0x0100, 0x0100, 0x0001), wide(0x0001), 0, 2},
		// Halves of pairs are units as others.
		{wide(0xD83D, 0xDE00), wide(0xDE00), 0, 1}, {wide(0xD83D, 0xDE00), wide(0xD83D), 1, -1},
		// The last byte of an odd number is passed over, of both.
		{ab + "\x00", wide(0), 0, -1}, {ab, wide('b') + "\x00", 0, 1}, {ab, "a", 0, 0}, {ab, "a", 2, 2}, {ab, "a", 3, -1}, {"a", "a", 0, 0}, {"a", "", 1, -1}, {"a", wide('a'), 0, -1},
	} {
		if i := Find(c.w, c.part, c.from); i != c.want {
			t.Errorf("Find(%q, %q, %d): %d, not %d", c.w, c.part, c.from, i, c.want)
		}
	}
}

// P1.1: the letters A to Z and a to z, and no other unit.
func TestLowerAndUpperOfUnits(t *testing.T) {
	for u := 0; u <= 0xFFFF; u++ {
		small, great := u, u
		if u >= 'A' && u <= 'Z' {
			small = u + 32
		}
		if u >= 'a' && u <= 'z' {
			great = u - 32
		}
		w := wide(uint16(u))
		if l := Lower(w); l != wide(uint16(small)) {
			t.Errorf("Lower of %x: %q", u, l)
		}
		if l := Upper(w); l != wide(uint16(great)) {
			t.Errorf("Upper of %x: %q", u, l)
		}
	}
}

// P1.1: texts of letters, of an odd number of bytes too.
func TestLowerAndUpperOfTexts(t *testing.T) {
	w := wide('a', 'Z', 0xC9, 0xE9, 0x4161, 0xD83D, '[', '`', '{', '@', 'm', 'M')
	if l := Lower(w); l != wide('a', 'z', 0xC9, 0xE9, 0x4161, 0xD83D, '[', '`', '{', '@', 'm', 'm') {
		t.Errorf("Lower: %q", l)
	}
	if l := Upper(w); l != wide('A', 'Z', 0xC9, 0xE9, 0x4161, 0xD83D, '[', '`', '{', '@', 'M', 'M') {
		t.Errorf("Upper: %q", l)
	}
	for _, last := range []string{"\x00", "a", "A"} {
		if l := Lower(w + last); l != Lower(w) {
			t.Errorf("Lower with a byte more: %q", l)
		}
		if l := Upper(w + last); l != Upper(w) {
			t.Errorf("Upper with a byte more: %q", l)
		}
		if Lower(last) != "" || Upper(last) != "" {
			t.Errorf("of the byte %q: %q, %q", last, Lower(last), Upper(last))
		}
	}
	if Lower("") != "" || Upper("") != "" {
		t.Error("of nothing")
	}
}

// P1.1: no call panics at awkward texts and numbers, and what is answered is of whole units.
func TestNoCallPanics(t *testing.T) {
	texts := []string{"", "a", "\xff", "\xd8", "\xd8\x3d", "\xd8\x3d\xde", "\xde\x00\xd8", "\x00a\x00", "é", "\xf0\x9f\x98", wide(0xDBFF, 0xDBFF)}
	numbers := []int{minInt, minInt + 1, minInt / 2, -2, -1, 0, 1, 2, 3, maxInt / 2, maxInt/2 + 1, maxInt - 1, maxInt}
	for _, w := range texts {
		Wide(w)
		Narrow(w)
		if Length(Lower(w))*2 != len(Lower(w)) || Length(Upper(w))*2 != len(Upper(w)) {
			t.Errorf("half a unit: %q, %q", Lower(w), Upper(w))
		}
		for _, i := range numbers {
			Next(w, i)
			At(w, i)
			for _, j := range numbers {
				if part := Cut(w, i, j); len(part)%2 != 0 {
					t.Errorf("Cut(%q, %d, %d): %q", w, i, j, part)
				}
			}
			for _, part := range texts {
				if at := Find(w, part, i); at < -1 || at > Length(w) {
					t.Errorf("Find(%q, %q, %d): %d", w, part, i, at)
				}
			}
		}
	}
}

// P1.3: of two texts joined.
func TestJoinedTexts(t *testing.T) {
	texts := over([]uint16{0, 'a', 0xD83D, 0xDE00, 0xFFFF}, 3)
	for _, s := range texts {
		for _, r := range texts {
			a, b := wide(s...), wide(r...)
			both := a + b
			if Length(both) != Length(a)+Length(b) || Cut(both, 0, Length(a)) != a || Cut(both, Length(a), Length(both)) != b {
				t.Fatalf("%q and %q: %d, %q, %q", a, b, Length(both), Cut(both, 0, Length(a)), Cut(both, Length(a), Length(both)))
			}
		}
	}
}

// P1.4: at the place that Find tells the part is cut out, and at none ahead of it.
func TestFindAgreesWithCut(t *testing.T) {
	units := []uint16{0x0061, 0x6100, 0x6161}
	for _, s := range over(units, 6) {
		w := wide(s...)
		for _, r := range over(units, 3) {
			findAgrees(t, w, wide(r...))
		}
	}
	for _, s := range over([]uint16{0x0101, 0x0001}, 10) {
		w := wide(s...)
		for from := 0; from <= len(s); from++ {
			findAgrees(t, w, Cut(w, from, len(s)))
			findAgrees(t, w, Cut(w, from, len(s)-1)+wide(0x0001))
		}
	}
}

func findAgrees(t *testing.T, w, part string) {
	t.Helper()
	for from := -1; from <= Length(w)+1; from++ {
		want := -1
		for i := max(from, 0); i <= Length(w)-Length(part); i++ {
			if Cut(w, i, i+Length(part)) == part {
				want = i
				break
			}
		}
		if got := Find(w, part, from); got != want {
			t.Fatalf("Find(%q, %q, %d): %d, not %d", w, part, from, got, want)
		}
	}
}

// Find ends soon also where nearly all of a long part stands at every place.
func TestFindInLongTexts(t *testing.T) {
	const n = 1 << 20
	w := strings.Repeat("\x00a", 2*n)
	part := strings.Repeat("\x00a", n) + "\x00b"
	if i := Find(w, part, 0); i != -1 {
		t.Error(i)
	}
	if i := Find(w+"\x00b", part, 7); i != n {
		t.Error(i)
	}
	if i := Find(strings.Repeat("\x01\x00", 2*n)+part, part, 0); i != 2*n {
		t.Error(i)
	}
}
