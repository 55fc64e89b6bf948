package esconv

import (
	"math"
	"testing"

	"pennant/api"
	"pennant/esheap"
)

// P9.1: values that are the same by ===.
func TestStrict(t *testing.T) {
	same := [][2]api.Value{
		{undefined(), undefined()}, {null(), null()},
		{boolean(0), boolean(0)}, {boolean(1), boolean(1)},
		{num(1), num(1)}, {num(0), num(minusNought())}, {num(math.Inf(1)), num(math.Inf(1))},
		{str(""), str("")}, {str("ab"), str("ab")}, {units(0xd83d), units(0xd83d)}, {long(9000), long(9000)},
		{objectOf(0), objectOf(0)}, {objectOf(3), objectOf(3)}, {builtin(0), builtin(0)}, {builtin(5), builtin(5)},
	}
	for _, p := range same {
		if !Strict(p[0], p[1]) || !Strict(p[1], p[0]) {
			t.Errorf("%s and %s are not the same", tell(p[0]), tell(p[1]))
		}
	}
	other := [][2]api.Value{
		{undefined(), null()}, {null(), boolean(0)}, {null(), num(0)}, {undefined(), num(math.NaN())},
		{boolean(0), boolean(1)}, {boolean(1), num(1)}, {boolean(0), str("")},
		{num(math.NaN()), num(math.NaN())}, {num(1), num(2)}, {num(math.Inf(1)), num(math.Inf(-1))}, {num(1), str("1")},
		{str("a"), str("A")}, {str("a"), str("ab")}, {str(""), undefined()}, {long(9000), long(9001)},
		{objectOf(0), objectOf(1)}, {builtin(0), builtin(1)}, {objectOf(1), builtin(1)}, {objectOf(0), null()}, {builtin(0), num(0)},
	}
	for _, p := range other {
		if Strict(p[0], p[1]) || Strict(p[1], p[0]) {
			t.Errorf("%s and %s are the same", tell(p[0]), tell(p[1]))
		}
	}
}

// P9.1: values that are the same by ==, of other kinds each.
func TestLoose(t *testing.T) {
	h := esheap.New(100)
	object, function := plain(t, h), funcOf(t, h)
	none, one, two := list(t, h), list(t, h, num(1)), list(t, h, num(1), num(2))
	gap, zero := list(t, h, null()), list(t, h, num(minusNought()))
	same := [][2]api.Value{
		{undefined(), null()},
		{boolean(0), num(0)}, {boolean(0), num(minusNought())}, {boolean(1), num(1)},
		{boolean(0), str("")}, {boolean(0), str(" 0 ")}, {boolean(1), str("1.0")},
		{num(0), str("")}, {num(31), str("0x1F")}, {num(-12), str(" -12 ")}, {num(math.Inf(1)), str("Infinity")}, {num(0), str("-0")},
		{none, str("")}, {none, num(0)}, {none, boolean(0)}, {one, num(1)}, {one, boolean(1)}, {one, str("1")},
		{two, str("1,2")}, {gap, str("")}, {gap, num(0)}, {zero, str("0")},
		{object, str("[object Object]")}, {function, str("function")}, {builtin(4), str("function")},
	}
	for _, p := range same {
		isLoose(t, h, p[0], p[1], true)
	}
	other := [][2]api.Value{
		{undefined(), num(math.NaN())}, {undefined(), boolean(0)}, {undefined(), str("")}, {undefined(), str("undefined")}, {undefined(), none}, {undefined(), builtin(0)},
		{null(), num(0)}, {null(), boolean(0)}, {null(), str("")}, {null(), str("null")}, {null(), gap}, {null(), none}, {null(), builtin(0)},
		{boolean(1), num(2)}, {boolean(1), str("true")}, {boolean(0), str("false")}, {boolean(1), str("a")},
		{num(math.NaN()), str("NaN")}, {num(1), str("1a")}, {num(1), str("01.5")},
		{one, str("1.0")}, {one, str(" 1")}, {two, num(1)}, {two, boolean(1)}, {object, num(0)}, {object, boolean(1)}, {object, str("object")},
		{zero, str("-0")}, {function, num(1)}, {builtin(0), num(0)}, {builtin(1), boolean(1)}, {builtin(1), str("")},
		{function, builtin(0)}, {object, builtin(0)}, {none, builtin(0)},
		{object, function}, {none, list(t, h)}, {one, list(t, h, num(1))}, {builtin(0), builtin(1)}, {num(math.NaN()), num(math.NaN())},
	}
	for _, p := range other {
		isLoose(t, h, p[0], p[1], false)
	}
}

// P9.1: Loose needs no text of two values of one kind, nor where one is Undefined or Null, nor of an Object and a Builtin; with others what is too long is told.
func TestLooseTooLong(t *testing.T) {
	h := esheap.New(100)
	much := list(t, h, long(api.MaxUnits+1))
	isLoose(t, h, much, much, true)
	isLoose(t, h, much, list(t, h, long(api.MaxUnits+1)), false)
	for _, v := range []api.Value{undefined(), null(), builtin(0), plain(t, h), funcOf(t, h)} {
		isLoose(t, h, much, v, false)
	}
	for _, v := range []api.Value{boolean(0), boolean(1), num(0), num(math.NaN()), str(""), long(api.MaxUnits + 1)} {
		for _, p := range [][2]api.Value{{much, v}, {v, much}} {
			if is, e := Loose(h, p[0], p[1]); is || e != api.ErrHeap {
				t.Errorf("Loose of %s, %s: %v, %v", tell(p[0]), tell(p[1]), is, e)
			}
		}
	}
	most := list(t, h, long(api.MaxUnits))
	isLoose(t, h, most, long(api.MaxUnits), true)
	isLoose(t, h, most, long(api.MaxUnits-1), false)
}

// P9.1: texts by their units.
func TestLessOfTexts(t *testing.T) {
	h := esheap.New(100)
	rising := []api.Value{
		str(""), units(0), units(0, 0), units(0, 1), units(1), str("\t"), str("-1"), str("1"), str("10"), str("1a"), str("9"), str("A"), str("a"), str("aa"), str("ab"), str("b"),
		units(0xff), units(0xff, 0xff), units(0x100), units(0x100, 0), units(0x101), units(0xd7ff), units(0xd83d), units(0xd83d, 0xde00), units(0xde00), units(0xff00), units(0xffff), units(0xffff, 0),
	}
	for i, a := range rising {
		for j, b := range rising {
			want := 0
			if i < j {
				want = 1
			}
			isLess(t, h, a, b, want)
		}
	}
}

// P9.1: all others by their numbers, of which NaN is neither less nor not.
func TestLessOfOthers(t *testing.T) {
	h := esheap.New(100)
	rising := [][]api.Value{
		{num(math.Inf(-1)), str("-Infinity")},
		{num(-1e21), num(-1e21)},
		{num(-1), str(" -1 "), list(t, h, num(-1))},
		{num(0), num(minusNought()), boolean(0), null(), str(""), str("-0"), list(t, h), list(t, h, undefined())},
		{num(5e-324)},
		{num(1), boolean(1), str("1"), list(t, h, str("1"))},
		{num(9), str("9")},
		{num(10), str("1e1"), str("0xA"), list(t, h, num(10))},
		{num(math.Inf(1)), str("1e400")},
	}
	for i, as := range rising {
		for j, bs := range rising {
			for _, a := range as {
				for _, b := range bs {
					if isUnits(a) && isUnits(b) {
						continue
					}
					want := 0
					if i < j {
						want = 1
					}
					isLess(t, h, a, b, want)
				}
			}
		}
	}
	for _, a := range []api.Value{undefined(), num(math.NaN())} {
		for _, b := range []api.Value{undefined(), null(), boolean(0), num(1), num(math.NaN()), str(""), str("a"), list(t, h), plain(t, h), builtin(0)} {
			isLess(t, h, a, b, -1)
			isLess(t, h, b, a, -1)
		}
	}
	for _, a := range []api.Value{str("a"), plain(t, h), funcOf(t, h), builtin(0), list(t, h, num(1), num(2))} {
		isLess(t, h, a, num(1), -1)
		isLess(t, h, null(), a, -1)
		isLess(t, h, a, boolean(1), -1)
	}
}

// isUnits says whether a value is held by its units, if another one is, too.
func isUnits(v api.Value) bool {
	return v.Kind == api.Text || v.Kind == api.Object || v.Kind == api.Builtin
}

// P9.1: Objects and Builtins by their texts.
func TestLessOfObjects(t *testing.T) {
	h := esheap.New(100)
	rising := []api.Value{list(t, h), list(t, h, num(10)), list(t, h, num(10), null()), list(t, h, num(9)), plain(t, h), list(t, h, str("[p")), builtin(9), list(t, h, str("functional"))}
	for i, a := range rising {
		for j, b := range rising {
			want := 0
			if i < j {
				want = 1
			}
			isLess(t, h, a, b, want)
			w, _ := Text(h, b)
			isLess(t, h, a, api.Value{Kind: api.Text, Text: w}, want)
		}
	}
	isLess(t, h, funcOf(t, h), builtin(0), 0)
	isLess(t, h, builtin(0), funcOf(t, h), 0)
	isLess(t, h, builtin(0), builtin(1), 0)
}

// P9.1: Less and Add need the texts of all Objects and Builtins.
func TestLessAndAddTooLong(t *testing.T) {
	h := esheap.New(100)
	much := list(t, h, long(api.MaxUnits+1))
	for _, v := range []api.Value{undefined(), null(), boolean(1), num(1), num(math.NaN()), str(""), long(api.MaxUnits + 1), plain(t, h), list(t, h), funcOf(t, h), builtin(0), much} {
		for _, p := range [][2]api.Value{{much, v}, {v, much}} {
			if n, e := Less(h, p[0], p[1]); n != 0 || e != api.ErrHeap {
				t.Errorf("Less of %s, %s: %v, %v", tell(p[0]), tell(p[1]), n, e)
			}
			addsTooMuch(t, h, p[0], p[1])
		}
	}
	most := list(t, h, long(api.MaxUnits))
	isLess(t, h, most, long(api.MaxUnits+1), 1)
	isLess(t, h, most, most, 0)
	adds(t, h, most, str(""), long(api.MaxUnits))
}

func addsTooMuch(t *testing.T, h *esheap.Heap, a, b api.Value) {
	t.Helper()
	if v, e := Add(h, a, b); !isOne(v, api.Value{}) || e != api.ErrHeap {
		t.Errorf("Add of %s, %s: %s, %v", tell(a), tell(b), tell(v), e)
	}
}

// P9.1: numbers are summed up.
func TestAddNumbers(t *testing.T) {
	h := esheap.New(10)
	cases := []struct {
		a, b api.Value
		want float64
	}{
		{num(1), num(2), 3}, {num(0.1), num(0.2), 0.30000000000000004}, {num(1e308), num(1e308), math.Inf(1)},
		{num(minusNought()), num(minusNought()), minusNought()}, {num(minusNought()), num(0), 0}, {num(1), num(-1), 0}, {num(minusNought()), null(), 0},
		{num(math.Inf(1)), num(math.Inf(-1)), math.NaN()}, {num(math.NaN()), num(1), math.NaN()}, {num(math.Inf(1)), num(1), math.Inf(1)},
		{boolean(1), boolean(1), 2}, {boolean(1), num(1), 2}, {boolean(0), null(), 0}, {null(), null(), 0},
		{undefined(), num(1), math.NaN()}, {undefined(), undefined(), math.NaN()}, {undefined(), null(), math.NaN()}, {undefined(), boolean(1), math.NaN()},
		{num(9007199254740992), num(1), 9007199254740992},
	}
	for _, c := range cases {
		adds(t, h, c.a, c.b, num(c.want))
		adds(t, h, c.b, c.a, num(c.want))
	}
}

// P9.1: where one is a text, or told by one, both texts are joined.
func TestAddTexts(t *testing.T) {
	h := esheap.New(100)
	object, function, pair := plain(t, h), funcOf(t, h), list(t, h, num(1), null())
	texts := []struct {
		v    api.Value
		text string
		is   bool
	}{
		{undefined(), "undefined", false}, {null(), "null", false}, {boolean(1), "true", false}, {boolean(0), "false", false},
		{num(1), "1", false}, {num(minusNought()), "0", false}, {num(math.NaN()), "NaN", false}, {num(1e21), "1e+21", false},
		{str(""), "", true}, {str("1"), "1", true}, {str("é"), "é", true}, {str("ab"), "ab", true},
		{object, "[object Object]", true}, {function, "function", true}, {builtin(6), "function", true}, {pair, "1,", true}, {list(t, h), "", true},
	}
	for _, a := range texts {
		for _, b := range texts {
			if a.is || b.is {
				adds(t, h, a.v, b.v, str(a.text+b.text))
			}
		}
	}
	adds(t, h, units(0xd83d), units(0xde00), units(0xd83d, 0xde00))
}

// P9.1: what is joined has api.MaxUnits units at most; a Text that was longer isn't handed on so.
func TestAddMost(t *testing.T) {
	h := esheap.New(100)
	most := api.MaxUnits
	array := list(t, h, long(most-5))
	cases := []struct {
		a, b   api.Value
		length int
	}{
		{long(most), str(""), most}, {long(most - 1), str("a"), most}, {long(most / 2), long(most / 2), most},
		{long(most), str("a"), most + 1}, {long(most + 1), str(""), most + 1}, {long(most), long(most), 2 * most},
		{long(most - 2), num(12), most}, {long(most - 1), num(12), most + 1}, {long(most - 4), null(), most}, {long(most - 3), null(), most + 1},
		{long(most + 1), num(1), most + 2}, {long(most - 15), plain(t, h), most}, {long(most - 14), plain(t, h), most + 1},
		{long(most - 8), builtin(0), most}, {long(most - 7), builtin(0), most + 1},
		{array, long(5), most}, {array, long(6), most + 1}, {array, boolean(0), most}, {array, array, 2*most - 10},
	}
	for _, c := range cases {
		for _, p := range [][2]api.Value{{c.a, c.b}, {c.b, c.a}} {
			if c.length > most {
				addsTooMuch(t, h, p[0], p[1])
				continue
			}
			v, e := Add(h, p[0], p[1])
			if v.Kind != api.Text || len(v.Text) != 2*c.length || v.Num != 0 || v.Ref != 0 || e != api.OK {
				t.Errorf("Add of %s, %s: %s, %v", tell(p[0]), tell(p[1]), tell(v), e)
			}
		}
	}
}
