package esheap

import (
	"slices"
	"testing"

	"pennant/api"
)

// P8.5: what is handed in is neither changed nor kept, its spare room neither.
func TestHandedInIsNeitherChangedNorKept(t *testing.T) {
	for items := range 5 {
		for room := range 4 {
			all := numbers(1, 2, 3, 4, 5, 6, 7, 8)
			list := all[: items : items+room]
			h := New(50)
			i := arrayOf(t, h, list...)
			j, e := h.Array(list)
			if e != api.OK {
				t.Fatal(e)
			}
			puts(t, h, j, wide("0"), null())
			puts(t, h, j, wide("6"), null())
			puts(t, h, j, wide("length"), number(1))
			puts(t, h, j, wide("length"), number(9))
			if !areOne(all, numbers(1, 2, 3, 4, 5, 6, 7, 8)) {
				t.Error(items, room, all)
			}
			for n := range all {
				all[n] = text("changed")
			}
			hasItems(t, h, i, numbers(1, 2, 3, 4)[:items]...)
			want := append([]api.Value{null()}, make([]api.Value, 8)...)
			hasItems(t, h, j, want...)
			// An array that is refused keeps nothing either.
			if _, e := h.Array(append(list, api.Value{Kind: 9})); e != api.ErrArg {
				t.Error(e)
			}
		}
	}
}

// P8.5: what is answered is new memory, its spare room too.
func TestAnsweredIsNew(t *testing.T) {
	h := New(200)
	i := arrayOf(t, h, numbers(1, 2, 3)...)
	puts(t, h, i, wide("length"), number(10))
	puts(t, h, i, wide("length"), number(3))
	for _, key := range wides("a b c d e") {
		puts(t, h, i, key, null())
	}
	drops(t, h, i, wide("b"), true)
	before := seen(h)
	items, _ := h.Items(i)
	other, _ := h.Items(i)
	keys := h.Keys(i)
	others := h.Keys(i)
	for n := range items[:cap(items)] {
		items[:cap(items)][n] = text("changed")
	}
	for n := range keys[:cap(keys)] {
		keys[:cap(keys)][n] = "changed"
	}
	if seen(h) != before {
		t.Error("what was answered is the heap's own")
	}
	if !areOne(other, numbers(1, 2, 3)) || !slices.Equal(others, wides("0 1 2 a c d e")) {
		t.Error("what was answered twice is one")
	}
	_ = append(other, text("more"))
	_ = append(others, "more")
	puts(t, h, i, wide("3"), number(4))
	puts(t, h, i, wide("0"), number(5))
	puts(t, h, i, wide("a"), number(5))
	puts(t, h, i, wide("z"), number(5))
	if !areOne(other, numbers(1, 2, 3)) || !slices.Equal(others, wides("0 1 2 a c d e")) {
		t.Error("what was answered has changed")
	}
	hasItems(t, h, i, numbers(5, 2, 3, 4)...)
	hasKeys(t, h, i, wides("0 1 2 3 a c d e z")...)
}

// P8.5: the items of two arrays, made of one list, are their own.
func TestArraysShareNothing(t *testing.T) {
	h := New(200)
	list := numbers(1, 2, 3)
	i, j := arrayOf(t, h, list...), arrayOf(t, h, list...)
	items, _ := h.Items(i)
	k := arrayOf(t, h, items...)
	for n, a := range []int{i, j, k} {
		puts(t, h, a, wide("0"), number(float64(10+n)))
		puts(t, h, a, wide("3"), number(float64(20+n)))
	}
	for n, a := range []int{i, j, k} {
		hasItems(t, h, a, numbers(float64(10+n), 2, 3, float64(20+n))...)
	}
	if !areOne(list, numbers(1, 2, 3)) || !areOne(items, numbers(1, 2, 3)) {
		t.Error(list, items)
	}
}
