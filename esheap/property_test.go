package esheap

import (
	"math"
	"strconv"
	"strings"
	"testing"

	"pennant/api"
)

// oddKeys are keys that no array tells among its items: each is its own one, by its bytes.
func oddKeys() []string {
	return append(wides("a b aa A é length2 lengt Length ength 01 -1 -0 1.0 1e1 2147483648 4294967296 __proto__ constructor NaN"),
		"", "\x00", "\x00\x00", "a", "ab", "\xff", "\xff\xfe", "0", "1", "12", "length", "\x000\x00", "\x00l\x00e\x00n\x00g\x00t\x00h\x00", "l\x00e\x00n\x00g\x00t\x00h\x00", wide(" 0"), wide("0 "), strings.Repeat("k", 1<<16))
}

// P8.1, P8.2: own properties of all kinds of objects, by keys of any bytes.
func TestOwnProperties(t *testing.T) {
	h := New(1000)
	objects := []int{plainOf(t, h, -1), arrayOf(t, h), arrayOf(t, h, text("x")), functionOf(t, h, 1, 2, -1)}
	for n, key := range oddKeys() {
		for _, i := range objects {
			lacks(t, h, i, key)
			getsNone(t, h, i, key)
			sets(t, h, i, key, number(1), false, api.OK)
			drops(t, h, i, key, false)
			puts(t, h, i, key, number(float64(100*n+i)))
		}
	}
	for n, key := range oddKeys() {
		for _, i := range objects {
			owns(t, h, i, key, number(float64(100*n+i)))
			gets(t, h, i, key, number(float64(100*n+i)))
		}
	}
	hasItems(t, h, 1)
	hasItems(t, h, 2, text("x"))
	hasKeys(t, h, 0, oddKeys()...)
	hasKeys(t, h, 1, oddKeys()...)
	hasKeys(t, h, 2, append(wides("0"), oddKeys()...)...)
	hasKeys(t, h, 3, oddKeys()...)
	hasSize(t, h, 4, 1000-4-1-4*len(oddKeys()))
}

// P8.1: indexes and length are keys as others, but on arrays.
func TestIndexesOfOtherObjects(t *testing.T) {
	h := New(100)
	for _, i := range []int{plainOf(t, h, -1), functionOf(t, h, 1, 2, -1)} {
		keys := wides("5 length 0 2147483647 1")
		for n, key := range keys {
			lacks(t, h, i, key)
			puts(t, h, i, key, text(strconv.Itoa(n)))
		}
		for n, key := range keys {
			owns(t, h, i, key, text(strconv.Itoa(n)))
		}
		hasKeys(t, h, i, keys...)
		// A length of their own may be any value, and doesn't cut anything.
		puts(t, h, i, wide("length"), number(-1.5))
		owns(t, h, i, wide("length"), number(-1.5))
		hasKeys(t, h, i, keys...)
		drops(t, h, i, wide("length"), true)
		drops(t, h, i, wide("0"), true)
		lacks(t, h, i, wide("length"))
		hasKeys(t, h, i, wides("5 2147483647 1")...)
	}
	hasSize(t, h, 2, 100-2-6)
}

// P8.2: what is put again, set or dropped.
func TestPropertiesChange(t *testing.T) {
	h := New(100)
	i, j := plainOf(t, h, -1), plainOf(t, h, -1)
	a, b := wide("a"), wide("b")
	puts(t, h, j, a, text("other"))
	for _, v := range []api.Value{undefined(), null(), boolean(1), number(math.NaN()), number(minusNought()), text("x"), objectOf(i), builtin(3), undefined()} {
		puts(t, h, i, a, v)
		owns(t, h, i, a, v)
		sets(t, h, i, a, number(1), true, api.OK)
		owns(t, h, i, a, number(1))
		sets(t, h, i, a, v, true, api.OK)
		owns(t, h, i, a, v)
		sets(t, h, i, b, v, false, api.OK)
		lacks(t, h, i, b)
		hasKeys(t, h, i, a)
		hasSize(t, h, 2, 96)
	}
	owns(t, h, j, a, text("other"))
	drops(t, h, i, a, true)
	lacks(t, h, i, a)
	getsNone(t, h, i, a)
	drops(t, h, i, a, false)
	sets(t, h, i, a, null(), false, api.OK)
	hasKeys(t, h, i)
	owns(t, h, j, a, text("other"))
	hasSize(t, h, 2, 97)
}

// P8.1: what is found along the prototypes, and set where it is found.
func TestPrototypes(t *testing.T) {
	h := New(100)
	top := plainOf(t, h, -1)
	middle := plainOf(t, h, top)
	low := plainOf(t, h, middle)
	side := plainOf(t, h, top)
	a := wide("a")
	for _, i := range []int{top, middle, low, side} {
		getsNone(t, h, i, a)
		sets(t, h, i, a, number(1), false, api.OK)
	}
	puts(t, h, top, a, number(1))
	sets(t, h, low, a, number(2), true, api.OK)
	for _, i := range []int{top, middle, low, side} {
		gets(t, h, i, a, number(2))
	}
	puts(t, h, middle, a, undefined())
	gets(t, h, low, a, undefined())
	gets(t, h, side, a, number(2))
	sets(t, h, low, a, number(3), true, api.OK)
	owns(t, h, middle, a, number(3))
	owns(t, h, top, a, number(2))
	lacks(t, h, low, a)
	puts(t, h, low, a, number(4))
	sets(t, h, low, a, number(5), true, api.OK)
	owns(t, h, low, a, number(5))
	owns(t, h, middle, a, number(3))
	drops(t, h, side, a, false)
	drops(t, h, low, a, true)
	gets(t, h, low, a, number(3))
	drops(t, h, middle, a, true)
	gets(t, h, low, a, number(2))
	drops(t, h, low, a, false)
	drops(t, h, top, a, true)
	getsNone(t, h, low, a)
	hasSize(t, h, 4, 96)
}

// P8.1: an array or a function behind an object.
func TestPrototypesOfOtherKinds(t *testing.T) {
	h := New(12)
	list := arrayOf(t, h, text("x"), text("y"))
	i := plainOf(t, h, list)
	j := plainOf(t, h, i)
	gets(t, h, j, wide("length"), number(2))
	gets(t, h, j, wide("1"), text("y"))
	getsNone(t, h, j, wide("2"))
	lacks(t, h, j, wide("length"))
	sets(t, h, j, wide("2"), number(1), false, api.OK)
	sets(t, h, j, wide("0"), number(1), true, api.OK)
	hasItems(t, h, list, number(1), text("y"))
	sets(t, h, j, wide("length"), number(3), true, api.OK)
	hasItems(t, h, list, number(1), text("y"), undefined())
	gets(t, h, j, wide("2"), undefined())
	sets(t, h, j, wide("length"), text("3"), true, api.ErrArg)
	sets(t, h, j, wide("length"), number(100), true, api.ErrHeap)
	drops(t, h, j, wide("0"), false)
	drops(t, h, j, wide("length"), false)
	// A property of its own hides the array's.
	puts(t, h, j, wide("length"), text("own"))
	puts(t, h, j, wide("0"), text("mine"))
	gets(t, h, j, wide("length"), text("own"))
	sets(t, h, j, wide("0"), text("still mine"), true, api.OK)
	gets(t, h, i, wide("0"), number(1))
	hasKeys(t, h, j, wides("length 0")...)
	hasKeys(t, h, i)

	f := functionOf(t, h, 1, 2, j)
	k := plainOf(t, h, f)
	puts(t, h, f, wide("a"), number(8))
	gets(t, h, k, wide("a"), number(8))
	// A scope is no prototype.
	getsNone(t, h, f, wide("length"))
	getsNone(t, h, k, wide("length"))
}

// P8.1: items by their indexes.
func TestItems(t *testing.T) {
	h := New(100)
	i := arrayOf(t, h)
	lacks(t, h, i, wide("0"))
	puts(t, h, i, wide("0"), text("a"))
	hasItems(t, h, i, text("a"))
	puts(t, h, i, wide("1"), text("b"))
	puts(t, h, i, wide("0"), text("c"))
	hasItems(t, h, i, text("c"), text("b"))
	puts(t, h, i, wide("5"), text("d"))
	hasItems(t, h, i, text("c"), text("b"), undefined(), undefined(), undefined(), text("d"))
	hasSize(t, h, 1, 93)
	owns(t, h, i, wide("3"), undefined())
	gets(t, h, i, wide("4"), undefined())
	lacks(t, h, i, wide("6"))
	lacks(t, h, i, wide("2147483647"))
	sets(t, h, i, wide("3"), text("e"), true, api.OK)
	sets(t, h, i, wide("6"), text("f"), false, api.OK)
	hasItems(t, h, i, text("c"), text("b"), undefined(), text("e"), undefined(), text("d"))
	for _, n := range []int{0, 2, 5} {
		drops(t, h, i, Key(n), true)
		drops(t, h, i, Key(n), true)
	}
	drops(t, h, i, wide("6"), false)
	drops(t, h, i, wide("length"), false)
	hasItems(t, h, i, undefined(), text("b"), undefined(), text("e"), undefined(), undefined())
	hasKeys(t, h, i, wides("0 1 2 3 4 5")...)
	hasSize(t, h, 1, 93)
}

// P8.1: how many items there are, as it is put.
func TestLength(t *testing.T) {
	h := New(100)
	i := arrayOf(t, h, text("a"), text("b"), text("c"))
	length := wide("length")
	puts(t, h, i, wide("x"), text("own"))
	for _, c := range []struct {
		n    float64
		want []api.Value
	}{
		{3, []api.Value{text("a"), text("b"), text("c")}},
		{5, []api.Value{text("a"), text("b"), text("c"), undefined(), undefined()}},
		{2, []api.Value{text("a"), text("b")}},
		// What was cut off doesn't come again.
		{4, []api.Value{text("a"), text("b"), undefined(), undefined()}},
		{1, []api.Value{text("a")}},
		{minusNought(), nil},
		{2, []api.Value{undefined(), undefined()}},
		{0, nil},
		{0, nil},
	} {
		puts(t, h, i, length, number(c.n))
		hasItems(t, h, i, c.want...)
		hasSize(t, h, 1, 98-len(c.want))
		owns(t, h, i, wide("x"), text("own"))
	}
	puts(t, h, i, wide("1"), text("d"))
	hasItems(t, h, i, undefined(), text("d"))
	sets(t, h, i, length, number(1), true, api.OK)
	hasItems(t, h, i, undefined())
	hasKeys(t, h, i, wides("0 x")...)
}

// P8.1: what no length is, and lengths for which the cells don't do.
func TestWrongLengths(t *testing.T) {
	h := New(20)
	i := arrayOf(t, h, text("a"), text("b"))
	length := wide("length")
	for _, v := range []api.Value{
		number(-1), number(-0.5), number(0.5), number(1.5), number(2147483648), number(2147483647.5), number(4294967296), number(4294967298), number(1 << 53), number(math.MaxFloat64), number(-math.MaxFloat64), number(5e-324), number(-5e-324), number(math.NaN()), number(math.Inf(1)), number(math.Inf(-1)), number(-2147483648),
		undefined(), null(), boolean(0), boolean(1), text(""), text("1"), text("0"), objectOf(0), builtin(0), builtin(1),
		{Kind: api.Number, Num: 1, Ref: 1}, {Kind: api.Number, Num: 1, Text: "ab"}, {Kind: 7, Num: 1},
	} {
		refuses(t, h, i, length, v, api.ErrArg)
		sets(t, h, i, length, v, true, api.ErrArg)
	}
	for _, n := range []float64{20, 21, 1000, 10001, 2147483646, 2147483647} {
		refuses(t, h, i, length, number(n), api.ErrHeap)
		sets(t, h, i, length, number(n), true, api.ErrHeap)
	}
	for _, n := range []int{19, 20, 21, 1000, 10001, 2147483646, 2147483647} {
		refuses(t, h, i, Key(n), null(), api.ErrHeap)
		sets(t, h, i, Key(n), null(), false, api.OK)
	}
	hasItems(t, h, i, text("a"), text("b"))
	puts(t, h, i, length, number(19))
	hasSize(t, h, 1, 0)
}

// P8.3: keys come in the order of their first Put, ones that were dropped last.
func TestOrderOfKeys(t *testing.T) {
	h := New(100)
	for _, i := range []int{plainOf(t, h, -1), functionOf(t, h, 0, 0, -1), arrayOf(t, h)} {
		hasKeys(t, h, i)
		for _, key := range wides("c a d b") {
			puts(t, h, i, key, null())
		}
		hasKeys(t, h, i, wides("c a d b")...)
		puts(t, h, i, wide("a"), number(1))
		sets(t, h, i, wide("c"), number(1), true, api.OK)
		hasKeys(t, h, i, wides("c a d b")...)
		drops(t, h, i, wide("a"), true)
		hasKeys(t, h, i, wides("c d b")...)
		puts(t, h, i, wide("a"), number(1))
		hasKeys(t, h, i, wides("c d b a")...)
		drops(t, h, i, wide("c"), true)
		drops(t, h, i, wide("a"), true)
		hasKeys(t, h, i, wides("d b")...)
		drops(t, h, i, wide("d"), true)
		drops(t, h, i, wide("b"), true)
		hasKeys(t, h, i)
		puts(t, h, i, wide("b"), null())
		puts(t, h, i, wide("c"), null())
		puts(t, h, i, wide("a"), null())
		hasKeys(t, h, i, wides("b c a")...)
	}
	// An array's items come first, however late they came in.
	puts(t, h, 2, wide("1"), null())
	hasKeys(t, h, 2, wides("0 1 b c a")...)
}

// P8.3: the order of many keys, of which each second one is dropped, hangs on no map's.
func TestOrderOfManyKeys(t *testing.T) {
	h := New(api.MaxCells)
	i := plainOf(t, h, -1)
	var want []string
	for n := range api.MaxCells - 1 {
		key := wide("k" + strconv.Itoa(n*7919%10007))
		puts(t, h, i, key, number(float64(n)))
		want = append(want, key)
	}
	hasKeys(t, h, i, want...)
	refuses(t, h, i, wide("one more"), null(), api.ErrHeap)
	var kept, gone []string
	for n, key := range want {
		if n%2 == 0 {
			drops1(t, h, i, key)
			gone = append(gone, key)
		} else {
			kept = append(kept, key)
		}
	}
	hasKeys(t, h, i, kept...)
	for _, key := range gone {
		puts(t, h, i, key, null())
	}
	hasKeys(t, h, i, append(kept, gone...)...)
	hasSize(t, h, 1, 0)
}

// drops1 drops without a look at all the heap.
func drops1(t *testing.T, h *Heap, i int, key string) {
	t.Helper()
	if !h.Drop(i, key) {
		t.Error("Drop:", i, short(key))
	}
}

// P8.1: prototypes of prototypes, as many as there may be.
func TestManyPrototypes(t *testing.T) {
	h := New(api.MaxCells)
	top := plainOf(t, h, -1)
	puts(t, h, top, wide("a"), null())
	last := top
	for range api.MaxCells - 2 {
		last = plainOf(t, h, last)
	}
	gets(t, h, last, wide("a"), null())
	getsNone(t, h, last, wide("b"))
	if ok, e := h.Set(last, wide("a"), number(1)); !ok || e != api.OK {
		t.Error(ok, e)
	}
	owns(t, h, top, wide("a"), number(1))
	if ok, e := h.Set(last, wide("b"), number(1)); ok || e != api.OK {
		t.Error(ok, e)
	}
	hasSize(t, h, api.MaxCells-1, 0)
}
