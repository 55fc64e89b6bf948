package esheap

import (
	"math"
	"testing"

	"pennant/api"
)

// P8.4: how many cells a heap is given.
func TestCellsGiven(t *testing.T) {
	for _, c := range []struct{ cells, left int }{{0, 0}, {1, 1}, {2, 2}, {9999, 9999}, {10000, 10000}, {10001, 10000}, {1 << 40, 10000}, {math.MaxInt, 10000}, {-1, 0}, {-10000, 0}, {math.MinInt, 0}} {
		h := New(c.cells)
		hasSize(t, h, 0, c.left)
		if k := h.Kind(0); k != 0 {
			t.Error(k)
		}
		for n := range c.left {
			if i, e := h.Function(n, 0, -1); i != n || e != api.OK {
				t.Error(i, e)
			}
		}
		hasSize(t, h, c.left, 0)
		if i, e := h.Plain(-1); i != 0 || e != api.ErrHeap {
			t.Error(i, e)
		}
		if i, e := h.Array(nil); i != 0 || e != api.ErrHeap {
			t.Error(i, e)
		}
		if i, e := h.Function(1, 2, -1); i != 0 || e != api.ErrHeap {
			t.Error(i, e)
		}
		hasSize(t, h, c.left, 0)
	}
}

// P8.4: two heaps have cells, and objects, of their own.
func TestTwoHeaps(t *testing.T) {
	a, b := New(5), New(5)
	plainOf(t, a, -1)
	puts(t, a, 0, "k", null())
	hasSize(t, a, 1, 3)
	hasSize(t, b, 0, 5)
	arrayOf(t, b, number(1))
	lacks(t, b, 0, "k")
	hasSize(t, b, 1, 3)
	owns(t, a, 0, "k", null())
}

// P8.4: an object takes one, each of its items, each own property; just as many as are left may be taken.
func TestCellsTaken(t *testing.T) {
	for items := range 6 {
		for left := range 9 {
			h := New(left)
			before := seen(h)
			i, e := h.Array(make([]api.Value, items))
			if items+1 > left {
				if i != 0 || e != api.ErrHeap || seen(h) != before {
					t.Error(items, left, i, e)
				}
				continue
			}
			if i != 0 || e != api.OK {
				t.Error(items, left, i, e)
			}
			left -= items + 1
			hasSize(t, h, 1, left)
			for _, key := range wides("a b c") {
				if left == 0 {
					refuses(t, h, 0, key, null(), api.ErrHeap)
					sets(t, h, 0, key, null(), false, api.OK)
					continue
				}
				left--
				puts(t, h, 0, key, null())
				puts(t, h, 0, key, number(1))
				hasSize(t, h, 1, left)
			}
		}
	}
}

// P8.4: items that come in by an index or by length take their cells, the Undefined ones too, and give them back.
func TestCellsOfItems(t *testing.T) {
	for left := range 6 {
		for first := range 4 {
			for n := range 12 {
				isResized(t, first, left, n, Key(n), null(), max(first, n+1))
				isResized(t, first, left, n, wide("length"), number(float64(n)), n)
			}
		}
	}
}

// isResized looks whether an array has so many items behind a Put, where as many cells are left as that takes.
func isResized(t *testing.T, first, left, n int, key string, v api.Value, count int) {
	t.Helper()
	h := New(1 + first + left)
	var items []api.Value
	for k := range first {
		items = append(items, number(float64(k)))
	}
	i := arrayOf(t, h, items...)
	if count-first > left {
		refuses(t, h, i, key, v, api.ErrHeap)
		return
	}
	puts(t, h, i, key, v)
	hasSize(t, h, 1, left-(count-first))
	for len(items) < count {
		items = append(items, undefined())
	}
	if v.Kind == api.Null {
		items[n] = v
	}
	hasItems(t, h, i, items[:count]...)
}

// P8.4: what is dropped or cut off is given back, and can be taken anew.
func TestCellsGivenBack(t *testing.T) {
	h := New(8)
	list := arrayOf(t, h, number(1), number(2))
	i := plainOf(t, h, -1)
	for range 100 {
		for _, key := range wides("a b c d") {
			puts(t, h, i, key, null())
		}
		hasSize(t, h, 2, 0)
		refuses(t, h, i, wide("e"), null(), api.ErrHeap)
		refuses(t, h, list, wide("2"), null(), api.ErrHeap)
		refuses(t, h, list, wide("x"), null(), api.ErrHeap)
		// What is there already takes none.
		puts(t, h, i, wide("a"), text("again"))
		puts(t, h, list, wide("1"), text("again"))
		puts(t, h, list, wide("length"), number(2))
		for n, key := range wides("b d a c") {
			drops(t, h, i, key, true)
			drops(t, h, i, key, false)
			hasSize(t, h, 2, n+1)
		}
		puts(t, h, list, wide("5"), null())
		hasSize(t, h, 2, 0)
		// An item that is dropped keeps its cell.
		drops(t, h, list, wide("5"), true)
		hasSize(t, h, 2, 0)
		puts(t, h, list, wide("length"), number(0))
		hasSize(t, h, 2, 6)
		puts(t, h, list, wide("length"), number(6))
		hasSize(t, h, 2, 0)
		puts(t, h, list, wide("length"), number(2))
		hasSize(t, h, 2, 4)
	}
}

// P8.4: all cells of the greatest heap may be an array's.
func TestGreatestArray(t *testing.T) {
	h := New(api.MaxCells)
	i := arrayOf(t, h)
	most := api.MaxCells - 1
	for n := range most {
		if e := h.Put(i, Key(n), number(float64(n))); e != api.OK {
			t.Fatal(n, e)
		}
	}
	hasSize(t, h, 1, 0)
	refuses(t, h, i, Key(most), null(), api.ErrHeap)
	refuses(t, h, i, wide("length"), number(float64(most+1)), api.ErrHeap)
	items, _ := h.Items(i)
	for n, v := range items {
		if !isOne(v, number(float64(n))) {
			t.Fatal(n, v)
		}
	}
	if keys := h.Keys(i); len(keys) != most || keys[most-1] != Key(most-1) {
		t.Error(len(keys))
	}
	// However often it is cut and grown, no room is left behind.
	for n := range 2000 {
		puts(t, h, i, wide("length"), number(float64(n%2*most)))
	}
	hasSize(t, h, 1, 0)
	list := make([]api.Value, api.MaxCells)
	if i, e := New(api.MaxCells).Array(list); i != 0 || e != api.ErrHeap {
		t.Error(i, e)
	}
	if i, e := New(api.MaxCells).Array(list[1:]); i != 0 || e != api.OK {
		t.Error(i, e)
	}
	if i, e := New(api.MaxCells).Array(make([]api.Value, 1<<20)); i != 0 || e != api.ErrHeap {
		t.Error(i, e)
	}
}
