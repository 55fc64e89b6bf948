package eslib

import (
	"math"
	"math/rand"
	"strings"
	"testing"

	"pennant/api"
	"pennant/esheap"
)

// P10.1: charAt and charCodeAt, of all places.
func TestCharAt(t *testing.T) {
	h := esheap.New(100)
	w := row16('a', 0xd83d, 0xde00, 0)
	units := []string{"'a'", `'\d83d;'`, `'\de00;'`, `'\0;'`}
	codes := []string{"97", "55357", "56832", "0"}
	for _, x := range someNumbers() {
		unit, code := "''", "NaN"
		if whole := math.Trunc(x); x != x || whole >= 0 && whole < 4 {
			i := 0
			if x == x {
				i = int(whole)
			}
			unit, code = units[i], codes[i]
		}
		calls(t, h, unit, charAt, w, num(x), num(1))
		calls(t, h, code, charCodeAt, w, num(x), num(1))
		calls(t, h, "''", charAt, str(""), num(x))
		calls(t, h, "NaN", charCodeAt, str(""), num(x))
	}
	for _, v := range args(undefined(), null(), no(), str("a"), str(""), record(t, h), list(t, h)) {
		calls(t, h, "'a'", charAt, w, v)
		calls(t, h, "97", charCodeAt, w, v)
	}
	for _, v := range args(yes(), str(" 1 "), list(t, h, num(1))) {
		calls(t, h, `'\d83d;'`, charAt, w, v)
		calls(t, h, "55357", charCodeAt, w, v)
	}
	calls(t, h, "'a'", charAt, w)
	calls(t, h, "97", charCodeAt, w)
	calls(t, h, "65535", charCodeAt, row16(0xffff))
}

// asWithin is a place by the chapter's words, where what is out of the text is its end.
func asWithin(x float64, length int) int {
	if x != x {
		return 0
	}
	return int(math.Max(0, math.Min(math.Trunc(x), float64(length))))
}

// P10.1: substring and slice, of all places.
func TestPartsOfTexts(t *testing.T) {
	h := esheap.New(100)
	for _, whole := range []string{"", "a", "ab", "abcd"} {
		length := len(whole)
		for _, x := range someNumbers() {
			calls(t, h, "'"+whole[asWithin(x, length):]+"'", substring, str(whole), num(x))
			calls(t, h, "'"+whole[asWithin(x, length):]+"'", substring, str(whole), num(x), undefined())
			calls(t, h, "'"+whole[asPlace(x, length):]+"'", textSlice, str(whole), num(x))
			calls(t, h, "'"+whole[asPlace(x, length):]+"'", textSlice, str(whole), num(x), undefined())
			for _, y := range someNumbers() {
				first, last := asWithin(x, length), asWithin(y, length)
				calls(t, h, "'"+whole[min(first, last):max(first, last)]+"'", substring, str(whole), num(x), num(y), num(1))
				first, last = asPlace(x, length), asPlace(y, length)
				calls(t, h, "'"+whole[first:max(first, last)]+"'", textSlice, str(whole), num(x), num(y), num(1))
			}
		}
	}
	w := row16(0xd83d, 0xde00, 'b')
	calls(t, h, `'\de00;b'`, substring, w, num(1))
	calls(t, h, `'\d83d;'`, textSlice, w, num(0), num(-2))
	calls(t, h, "'abc'", substring, str("abc"))
	calls(t, h, "'abc'", textSlice, str("abc"))
	calls(t, h, "'ab'", substring, str("abc"), undefined(), str("2"))
	calls(t, h, "'ab'", textSlice, str("abc"), undefined(), list(t, h, num(2)))
	calls(t, h, "'a'", substring, str("abc"), yes(), null())
	calls(t, h, "''", textSlice, str("abc"), yes(), null())
	calls(t, h, "'ab'", substring, str("abc"), num(2), str("x"))
}

// P10.1: toUpperCase and toLowerCase.
func TestCases(t *testing.T) {
	h := esheap.New(100)
	w := row16('a', 'z', 'A', 'Z', '@', '[', 0x60, '{', 0xe9, 0xc9, 0x161, 0x141, 0x6141, 0x4161, 0xd83d)
	calls(t, h, "'AZAZ@[`{"+`\e9;\c9;\161;\141;\6141;\4161;\d83d;'`, toUpperCase, w, num(1))
	calls(t, h, "'azaz@[`{"+`\e9;\c9;\161;\141;\6141;\4161;\d83d;'`, toLowerCase, w, num(1))
	calls(t, h, "''", toUpperCase, str(""), num(1))
	calls(t, h, "''", toLowerCase, str(""), num(1))
}

// P10.1: indexOf's edges.
func TestTextIndexOf(t *testing.T) {
	h := esheap.New(100)
	for _, c := range []struct {
		w, part string
		from    []api.Value
		want    string
	}{
		{"abab", "ab", nil, "0"}, {"abab", "ab", args(num(0)), "0"}, {"abab", "ab", args(num(1)), "2"}, {"abab", "ab", args(num(2)), "2"}, {"abab", "ab", args(num(3)), "-1"},
		{"abab", "ab", args(num(2.9)), "2"}, {"abab", "ab", args(num(-1)), "0"}, {"abab", "ab", args(num(math.Inf(-1))), "0"}, {"abab", "ab", args(num(math.Inf(1))), "-1"},
		{"abab", "ab", args(str("1")), "2"}, {"abab", "ab", args(undefined()), "0"}, {"abab", "ab", args(num(math.NaN())), "0"}, {"abab", "ab", args(num(1e300)), "-1"},
		{"abab", "ba", nil, "1"}, {"abab", "c", nil, "-1"}, {"abab", "ababa", nil, "-1"}, {"abab", "abab", nil, "0"},
		{"abab", "", nil, "0"}, {"abab", "", args(num(3)), "3"}, {"abab", "", args(num(4)), "4"}, {"abab", "", args(num(5)), "4"}, {"abab", "", args(num(1e300)), "4"}, {"abab", "", args(num(-5)), "0"},
		{"", "", nil, "0"}, {"", "", args(num(1)), "0"}, {"", "a", nil, "-1"},
		{"ab\x00a", "\x00", nil, "2"},
	} {
		calls(t, h, c.want, textIndexOf, str(c.w), append(args(str(c.part)), c.from...)...)
	}
	calls(t, h, "1", textIndexOf, str("a1"), num(1))
	calls(t, h, "2", textIndexOf, str("a undefined"))
	calls(t, h, "2", textIndexOf, str("a null"), null())
	calls(t, h, "2", textIndexOf, str("a 1,2"), list(t, h, num(1), num(2)))
	// A part begins where a unit does.
	calls(t, h, "-1", textIndexOf, row16(0x6162, 0x6300), row16(0x6263))
}

// P10.1: split's edges.
func TestSplit(t *testing.T) {
	h := esheap.New(1000)
	for _, c := range []struct{ w, mark, want string }{
		{"a,b,", ",", "['a', 'b', '']"}, {",a", ",", "['', 'a']"}, {",", ",", "['', '']"}, {",,", ",", "['', '', '']"}, {"", ",", "['']"}, {"ab", ",", "['ab']"},
		{"aaa", "aa", "['', 'a']"}, {"aaaa", "aa", "['', '', '']"}, {"abcbd", "bc", "['a', 'bd']"}, {"ab", "ab", "['', '']"}, {"ab", "abc", "['ab']"},
		{"", "", "[]"}, {"a", "", "['a']"}, {"abc", "", "['a', 'b', 'c']"},
	} {
		calls(t, h, c.want, split, str(c.w), str(c.mark), num(1))
	}
	calls(t, h, "['a,b']", split, str("a,b"))
	calls(t, h, "['a,b']", split, str("a,b"), undefined(), num(1))
	calls(t, h, "['']", split, str(""))
	calls(t, h, "['a', 'b']", split, str("anullb"), null())
	calls(t, h, "['a', 'b']", split, str("a1,2b"), list(t, h, num(1), num(2)))
	calls(t, h, "['a', 'b']", split, str("ab"), list(t, h))
	calls(t, h, "['0', '0']", split, str("010"), num(1))
	calls(t, h, `['\d83d;', '\de00;']`, split, row16(0xd83d, 0xde00), str(""))
}

// P10.1: split of a long text is ErrHeap where no heap has so many cells, and else soon done.
func TestSplitMuch(t *testing.T) {
	h := esheap.New(api.MaxCells)
	changesNothing(t, h, "ErrHeap", split, long(1<<20), str(""))
	changesNothing(t, h, "ErrHeap", split, long(1<<20), str("x"))
	changesNothing(t, h, "ErrHeap", split, long(api.MaxCells), str(""))
	calls(t, h, "['', '']", split, long(1<<20), long(1<<20))
	half := strings.Repeat("x", 1<<19)
	calls(t, h, "[524288 units, 524287 units]", split, str(half+"y"+half[1:]), str("y"))
	v, e := Call(h, split, long(9000), args(str("")))
	if items, _ := h.Items(v.Ref); e != api.OK || len(items) != 9000 {
		t.Error(v, e, len(items))
	}
}

// P10.4, and split held against that of Go, by dice.
func TestSplitByDice(t *testing.T) {
	dice := rand.New(rand.NewSource(44))
	for range 20000 {
		letters := "ab,"[:2+dice.Intn(2)]
		w, mark := word(dice, letters, 12), word(dice, letters, 3)
		h := esheap.New(100)
		parts, e := Call(h, split, str(w), args(str(mark)))
		items, ok := h.Items(parts.Ref)
		want := strings.Split(w, mark)
		if e != api.OK || !ok || len(items) != len(want) {
			t.Fatalf("%q by %q: %s, %v", w, mark, show(h, parts), e)
		}
		for i, v := range items {
			if v != str(want[i]) {
				t.Fatalf("%q by %q: %s", w, mark, show(h, parts))
			}
		}
		if back, e := Call(h, join, parts, args(str(mark))); back != str(w) || e != api.OK {
			t.Fatalf("%q by %q, joined: %s, %v", w, mark, show(h, back), e)
		}
	}
}

// word is up to most of these letters.
func word(dice *rand.Rand, letters string, most int) (w string) {
	for range dice.Intn(most + 1) {
		w += letters[dice.Intn(len(letters)):][:1]
	}
	return w
}

// P10.1: indexOf held against Go's, by dice.
func TestTextIndexOfByDice(t *testing.T) {
	dice := rand.New(rand.NewSource(45))
	h := esheap.New(0)
	for range 20000 {
		w, part := word(dice, "ab", 10), word(dice, "ab", 4)
		x := someNumbers()[dice.Intn(len(someNumbers()))]
		from := asWithin(x, len(w))
		want := strings.Index(w[from:], part)
		if want >= 0 {
			want += from
		}
		if v, e := Call(h, textIndexOf, str(w), args(str(part), num(x))); v != num(float64(want)) || e != api.OK {
			t.Fatalf("%q in %q from %v: %v, %v, not %v", part, w, x, v, e, want)
		}
	}
}
