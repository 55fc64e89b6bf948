package esheap

import (
	"math"
	"strings"
	"testing"

	"pennant/api"
)

// P8.1: which values are right, in a heap of three objects.
func TestRightValues(t *testing.T) {
	long := strings.Repeat("\xd8\x00", 1<<16)
	for _, c := range []struct {
		v  api.Value
		is bool
	}{
		{undefined(), true}, {null(), true}, {boolean(0), true}, {boolean(1), true},
		{number(0), true}, {number(minusNought()), true}, {number(1.5), true}, {number(math.NaN()), true}, {number(math.Inf(1)), true}, {number(math.Inf(-1)), true}, {number(math.MaxFloat64), true}, {number(5e-324), true},
		{text(""), true}, {text("a"), true}, {text("é😀"), true}, {api.Value{Kind: api.Text, Text: "\xd8\x00"}, true}, {api.Value{Kind: api.Text, Text: "ab"}, true}, {api.Value{Kind: api.Text, Text: long}, true},
		{objectOf(0), true}, {objectOf(1), true}, {objectOf(2), true},
		{builtin(0), true}, {builtin(2), true}, {builtin(3), true}, {builtin(90), true}, {builtin(math.MaxInt), true},

		{api.Value{Kind: -1}, false}, {api.Value{Kind: 7}, false}, {api.Value{Kind: math.MinInt}, false}, {api.Value{Kind: math.MaxInt}, false}, {api.Value{Kind: 256}, false}, {api.Value{Kind: -6}, false},
		{boolean(2), false}, {boolean(-1), false}, {boolean(0.5), false}, {boolean(math.NaN()), false}, {boolean(math.Inf(1)), false}, {boolean(minusNought()), false}, {boolean(1 + 0x1p-52), false},
		{api.Value{Kind: api.Text, Text: "a"}, false}, {api.Value{Kind: api.Text, Text: "abc"}, false}, {api.Value{Kind: api.Text, Text: long + "a"}, false},
		{objectOf(3), false}, {objectOf(4), false}, {objectOf(-1), false}, {objectOf(math.MinInt), false}, {objectOf(math.MaxInt), false}, {objectOf(1 << 32), false},
		{builtin(-1), false}, {builtin(math.MinInt), false},
	} {
		isRightInThree(t, c.v, c.is)
	}
}

// isRightInThree looks whether all calls that take a value say the same of it, in a heap of three objects.
func isRightInThree(t *testing.T, v api.Value, is bool) {
	t.Helper()
	isPutInThree(t, v, is)
	isMadeInThree(t, v, is)
}

func isMadeInThree(t *testing.T, v api.Value, is bool) {
	t.Helper()
	for _, items := range [][]api.Value{{v}, {number(1), v}, {v, number(1)}, {number(1), v, number(2)}} {
		h := New(50)
		for range 3 {
			plainOf(t, h, -1)
		}
		before := seen(h)
		i, e := h.Array(items)
		if is && (i != 3 || e != api.OK) || !is && (i != 0 || e != api.ErrArg) {
			t.Error("Array:", v.Kind, v.Num, short(v.Text), v.Ref, i, e)
		}
		if is {
			hasItems(t, h, i, items...)
		} else if seen(h) != before {
			t.Error("Array has changed the heap")
		}
	}
}

func isPutInThree(t *testing.T, v api.Value, is bool) {
	t.Helper()
	h := New(50)
	plainOf(t, h, -1)
	plainOf(t, h, -1)
	list := arrayOf(t, h, number(1))
	key := wide("k")
	puts(t, h, 1, key, number(77))
	if is {
		puts(t, h, list, wide("0"), v)
		puts(t, h, list, wide("2"), v)
		puts(t, h, 0, key, v)
		sets(t, h, 1, key, v, true, api.OK)
		hasItems(t, h, list, v, undefined(), v)
		owns(t, h, 0, key, v)
		owns(t, h, 1, key, v)
		return
	}
	refuses(t, h, list, wide("0"), v, api.ErrArg)
	refuses(t, h, list, wide("2"), v, api.ErrArg)
	refuses(t, h, list, wide("length"), v, api.ErrArg)
	refuses(t, h, 0, key, v, api.ErrArg)
	refuses(t, h, 1, key, v, api.ErrArg)
	// What Put answers is told beside true.
	sets(t, h, 1, key, v, true, api.ErrArg)
	sets(t, h, list, wide("0"), v, true, api.ErrArg)
	sets(t, h, list, wide("length"), v, true, api.ErrArg)
	// Where nothing is found nothing is put, so that no value is wrong.
	sets(t, h, 0, key, v, false, api.OK)
	sets(t, h, list, wide("5"), v, false, api.OK)
}

// P8.1: what its kind doesn't use must be zero.
func TestWhatAKindDoesNotUse(t *testing.T) {
	right := []api.Value{undefined(), null(), boolean(0), boolean(1), number(0), number(4), text(""), text("a"), objectOf(0), objectOf(2), builtin(0), builtin(5)}
	nums := []float64{1, -1, 0.5, minusNought(), math.NaN(), math.Inf(1), math.Inf(-1), 5e-324, -5e-324}
	for _, v := range right {
		if v.Kind != api.Bool && v.Kind != api.Number {
			for _, n := range nums {
				w := v
				w.Num = n
				isRightInThree(t, w, false)
			}
		}
		if v.Kind != api.Text {
			for _, s := range []string{"a", "\x00", "\x00\x00", wide("a")} {
				w := v
				w.Text = s
				isRightInThree(t, w, false)
			}
		}
		if v.Kind != api.Object && v.Kind != api.Builtin {
			for _, n := range []int{1, 2, -1, 3, math.MinInt, math.MaxInt} {
				w := v
				w.Ref = n
				isRightInThree(t, w, false)
			}
		}
	}
}

// P8.1: an object that comes in later is right from then on; an array can't be made of itself, but have itself put in.
func TestObjectsThatComeLater(t *testing.T) {
	h := New(50)
	if i, e := h.Array([]api.Value{objectOf(0)}); i != 0 || e != api.ErrArg {
		t.Error(i, e)
	}
	list := arrayOf(t, h, number(1))
	refuses(t, h, list, wide("0"), objectOf(1), api.ErrArg)
	puts(t, h, list, wide("0"), objectOf(list))
	plainOf(t, h, -1)
	puts(t, h, list, wide("1"), objectOf(1))
	hasItems(t, h, list, objectOf(list), objectOf(1))
}

// P8.1: a wrong value is told ahead of a lack of cells.
func TestWrongValuesAheadOfCells(t *testing.T) {
	h := New(2)
	list := arrayOf(t, h, number(1))
	for _, key := range wides("a 1 2147483647") {
		refuses(t, h, list, key, api.Value{Kind: 9}, api.ErrArg)
		refuses(t, h, list, key, number(1), api.ErrHeap)
	}
	refuses(t, h, list, wide("length"), number(-1), api.ErrArg)
	refuses(t, h, list, wide("length"), number(2), api.ErrHeap)
	if i, e := h.Array([]api.Value{number(1), number(2), {Kind: 9}}); i != 0 || e != api.ErrArg {
		t.Error(i, e)
	}
	if i, e := h.Array(numbers(1, 2, 3)); i != 0 || e != api.ErrHeap {
		t.Error(i, e)
	}
}
