package esconv

import (
	"math"
	"strconv"
	"strings"
	"testing"

	"pennant/api"
	"pennant/esheap"
	"pennant/esnum"
	"pennant/utf"
)

func undefined() api.Value        { return api.Value{} }
func null() api.Value             { return api.Value{Kind: api.Null} }
func boolean(n float64) api.Value { return api.Value{Kind: api.Bool, Num: n} }
func num(n float64) api.Value     { return api.Value{Kind: api.Number, Num: n} }
func str(s string) api.Value      { return api.Value{Kind: api.Text, Text: wideOf(s)} }
func objectOf(i int) api.Value    { return api.Value{Kind: api.Object, Ref: i} }
func builtin(i int) api.Value     { return api.Value{Kind: api.Builtin, Ref: i} }
func minusNought() float64        { return math.Copysign(0, -1) }

// units is a Text of any units.
func units(list ...uint16) api.Value {
	var b []byte
	for _, u := range list {
		b = append(b, byte(u>>8), byte(u))
	}
	return api.Value{Kind: api.Text, Text: string(b)}
}

// wideOf is a text as a wide one; its characters stand below 10000 (in sixteens).
func wideOf(s string) string {
	var b []byte
	for _, c := range s {
		b = append(b, byte(c>>8), byte(c))
	}
	return string(b)
}

// long is a Text of so many units.
func long(n int) api.Value { return str(strings.Repeat("x", n)) }

// short tells a text, or how long it is.
func short(w string) string {
	if len(w) > 200 {
		return strconv.Itoa(utf.Length(w)) + " units"
	}
	return strconv.Quote(w)
}

func tell(v api.Value) string {
	return "{" + strconv.Itoa(v.Kind) + " " + esnum.Text(v.Num) + " " + short(v.Text) + " " + strconv.Itoa(v.Ref) + "}"
}

func isOne(a, b api.Value) bool {
	return a.Kind == b.Kind && esnum.Same(a.Num, b.Num) && a.Text == b.Text && a.Ref == b.Ref
}

func plain(t *testing.T, h *esheap.Heap) api.Value {
	t.Helper()
	i, e := h.Plain(-1)
	if e != api.OK {
		t.Fatal(e)
	}
	return objectOf(i)
}

func list(t *testing.T, h *esheap.Heap, items ...api.Value) api.Value {
	t.Helper()
	i, e := h.Array(items)
	if e != api.OK {
		t.Fatal(e)
	}
	return objectOf(i)
}

func funcOf(t *testing.T, h *esheap.Heap) api.Value {
	t.Helper()
	i, e := h.Function(4, 5, -1)
	if e != api.OK {
		t.Fatal(e)
	}
	return objectOf(i)
}

// puts lays items behind those that an array has.
func puts(t *testing.T, h *esheap.Heap, at api.Value, items ...api.Value) {
	t.Helper()
	there, _ := h.Items(at.Ref)
	for i, v := range items {
		if e := h.Put(at.Ref, esheap.Key(len(there)+i), v); e != api.OK {
			t.Fatal(e)
		}
	}
}

func hasText(t *testing.T, h *esheap.Heap, v api.Value, want string) {
	t.Helper()
	if w, e := Text(h, v); w != wideOf(want) || e != api.OK {
		t.Errorf("%s has the text %s, %v, not %q", tell(v), short(w), e, want)
	}
}

func hasLength(t *testing.T, h *esheap.Heap, v api.Value, want int) {
	t.Helper()
	if w, e := Text(h, v); len(w) != 2*want || e != api.OK {
		t.Errorf("%s has a text of %d bytes, %v, not of %d units", tell(v), len(w), e, want)
	}
}

func isTooLong(t *testing.T, h *esheap.Heap, v api.Value) {
	t.Helper()
	if w, e := Text(h, v); w != "" || e != api.ErrHeap {
		t.Errorf("%s has the text %s, %v, but is too long", tell(v), short(w), e)
	}
}

func hasNumber(t *testing.T, h *esheap.Heap, v api.Value, want float64) {
	t.Helper()
	if x, e := Number(h, v); !esnum.Same(x, want) || e != api.OK {
		t.Errorf("%s has the number %v, %v, not %v", tell(v), x, e, want)
	}
}

func isLoose(t *testing.T, h *esheap.Heap, a, b api.Value, want bool) {
	t.Helper()
	for range 2 {
		if is, e := Loose(h, a, b); is != want || e != api.OK {
			t.Errorf("Loose of %s, %s: %v, %v", tell(a), tell(b), is, e)
		}
		a, b = b, a
	}
}

func isLess(t *testing.T, h *esheap.Heap, a, b api.Value, want int) {
	t.Helper()
	if n, e := Less(h, a, b); n != want || e != api.OK {
		t.Errorf("Less of %s, %s: %v, %v", tell(a), tell(b), n, e)
	}
}

func adds(t *testing.T, h *esheap.Heap, a, b, want api.Value) {
	t.Helper()
	if v, e := Add(h, a, b); !isOne(v, want) || e != api.OK {
		t.Errorf("Add of %s, %s: %s, %v, not %s", tell(a), tell(b), tell(v), e, tell(want))
	}
}

// The examples of the chapter.
func TestExamples(t *testing.T) {
	h := esheap.New(100)
	inner := list(t, h, num(2), null())
	hasText(t, h, list(t, h, num(1), inner, undefined()), "1,2,,")
	a := list(t, h)
	puts(t, h, a, a)
	hasText(t, h, a, "")
	none, object := list(t, h), plain(t, h)
	hasNumber(t, h, none, 0)
	hasNumber(t, h, list(t, h, num(5)), 5)
	hasNumber(t, h, object, math.NaN())
	hasNumber(t, h, boolean(1), 1)
	isLoose(t, h, str("1"), num(1), true)
	isLoose(t, h, null(), num(0), false)
	isLoose(t, h, list(t, h, num(1), num(2)), str("1,2"), true)
	isLoose(t, h, boolean(1), str("1"), true)
	isLoose(t, h, num(math.NaN()), num(math.NaN()), false)
	isLess(t, h, str("10"), str("9"), 1)
	isLess(t, h, str("10"), num(9), 0)
	isLess(t, h, str("a"), num(1), -1)
	adds(t, h, num(1), str("a"), str("1a"))
	adds(t, h, none, object, str("[object Object]"))
	adds(t, h, null(), num(1), num(1))
}

// P9.1: what counts as true.
func TestBool(t *testing.T) {
	h := esheap.New(100)
	cases := []struct {
		v    api.Value
		want bool
	}{
		{undefined(), false}, {null(), false},
		{boolean(0), false}, {boolean(1), true},
		{num(0), false}, {num(minusNought()), false}, {num(math.NaN()), false},
		{num(1), true}, {num(-1), true}, {num(0.5), true}, {num(5e-324), true}, {num(math.Inf(1)), true}, {num(math.Inf(-1)), true},
		{str(""), false}, {str("0"), true}, {str(" "), true}, {str("false"), true}, {units(0), true}, {long(9000), true},
		{plain(t, h), true}, {list(t, h), true}, {list(t, h, boolean(0)), true}, {funcOf(t, h), true},
		{builtin(0), true}, {builtin(7), true},
	}
	for _, c := range cases {
		if Bool(c.v) != c.want {
			t.Errorf("Bool of %s: %v", tell(c.v), !c.want)
		}
	}
}

// P9.1: the texts of what is no array, and the number that they say.
func TestTextAndNumber(t *testing.T) {
	h := esheap.New(100)
	child, _ := h.Plain(0)
	cases := []struct {
		v    api.Value
		text string
		num  float64
	}{
		{undefined(), "undefined", math.NaN()},
		{null(), "null", 0},
		{boolean(0), "false", 0}, {boolean(1), "true", 1},
		{num(0), "0", 0}, {num(minusNought()), "0", minusNought()}, {num(math.NaN()), "NaN", math.NaN()},
		{num(12), "12", 12}, {num(-1.5), "-1.5", -1.5}, {num(1e21), "1e+21", 1e21}, {num(1e-7), "1e-7", 1e-7},
		{num(math.Inf(1)), "Infinity", math.Inf(1)}, {num(math.Inf(-1)), "-Infinity", math.Inf(-1)},
		{str(""), "", 0}, {str(" \t"), " \t", 0}, {str(" 12 "), " 12 ", 12}, {str("-0"), "-0", minusNought()},
		{str("0x1F"), "0x1F", 31}, {str("é"), "é", math.NaN()}, {str("1,"), "1,", math.NaN()},
		{str("null"), "null", math.NaN()}, {str("true"), "true", math.NaN()}, {str("-Infinity"), "-Infinity", math.Inf(-1)},
		{plain(t, h), "[object Object]", math.NaN()}, {objectOf(child), "[object Object]", math.NaN()},
		{funcOf(t, h), "function", math.NaN()},
		{builtin(0), "function", math.NaN()}, {builtin(1 << 40), "function", math.NaN()},
	}
	for _, c := range cases {
		hasText(t, h, c.v, c.text)
		hasNumber(t, h, c.v, c.num)
	}
	odd := units(0xd83d, 0, 0xffff)
	if w, e := Text(h, odd); w != odd.Text || e != api.OK {
		t.Error(short(w), e)
	}
}

// P9.1: an object's own properties have no say in its text, its number or its type.
func TestPropertiesHaveNoSay(t *testing.T) {
	h := esheap.New(100)
	object, array, function := plain(t, h), list(t, h, num(1), num(2)), funcOf(t, h)
	for _, v := range []api.Value{object, array, function} {
		for _, key := range []string{"toString", "valueOf", "01", "x"} {
			if e := h.Put(v.Ref, wideOf(key), num(7)); e != api.OK {
				t.Fatal(e)
			}
		}
	}
	if e := h.Put(object.Ref, wideOf("length"), num(3)); e != api.OK {
		t.Fatal(e)
	}
	hasText(t, h, object, "[object Object]")
	hasText(t, h, array, "1,2")
	hasText(t, h, function, "function")
	hasNumber(t, h, array, math.NaN())
}

// P9.1: the types' names, in plain bytes.
func TestType(t *testing.T) {
	h := esheap.New(100)
	cases := []struct {
		v    api.Value
		want string
	}{
		{undefined(), "undefined"}, {null(), "object"},
		{boolean(0), "boolean"}, {boolean(1), "boolean"},
		{num(0), "number"}, {num(math.NaN()), "number"},
		{str(""), "string"}, {str("1"), "string"},
		{plain(t, h), "object"}, {list(t, h), "object"}, {list(t, h, num(1)), "object"}, {funcOf(t, h), "function"},
		{builtin(0), "function"}, {builtin(3), "function"},
	}
	for _, c := range cases {
		if name := Type(h, c.v); name != c.want {
			t.Errorf("%s is of the type %q", tell(c.v), name)
		}
	}
}

// P9.1: a text that is needed and too long is told by a number and a text as by all others.
func TestTooLong(t *testing.T) {
	h := esheap.New(100)
	much := list(t, h, long(api.MaxUnits+1))
	isTooLong(t, h, much)
	if x, e := Number(h, much); x != 0 || e != api.ErrHeap {
		t.Error(x, e)
	}
	most := list(t, h, long(api.MaxUnits))
	hasLength(t, h, most, api.MaxUnits)
	hasNumber(t, h, most, math.NaN())
	if !Bool(much) || Type(h, much) != "object" || !Strict(much, much) || Strict(much, most) {
		t.Error("a call that needs no text asks for it")
	}
}

// P9.1: a Text that is longer is told as it is.
func TestLongTexts(t *testing.T) {
	h := esheap.New(100)
	for _, n := range []int{api.MaxUnits, api.MaxUnits + 1, 3 * api.MaxUnits} {
		v := long(n)
		hasLength(t, h, v, n)
		hasNumber(t, h, v, math.NaN())
		hasNumber(t, h, str(strings.Repeat(" ", n)+"5"), 5)
		isLoose(t, h, v, long(n), true)
		isLoose(t, h, v, long(n+1), false)
		isLoose(t, h, str(strings.Repeat(" ", n)+"5"), num(5), true)
		isLoose(t, h, v, list(t, h), false)
		isLess(t, h, v, long(n+1), 1)
		isLess(t, h, long(n+1), v, 0)
		isLess(t, h, v, str("y"), 1)
		isLess(t, h, str(strings.Repeat(" ", n)+"5"), num(6), 1)
	}
}
