package esconv

import (
	"math"
	"testing"

	"pennant/api"
	"pennant/esheap"
)

// wrong is values that are right in no heap, or not in a small one.
func wrong() (all []api.Value) {
	for _, kind := range []int{math.MinInt, -1, 0, 1, 2, 3, 4, 5, 6, 7, 99, math.MaxInt} {
		for _, ref := range []int{math.MinInt, -1, 0, 1, 2, 3, 4, 1 << 40, math.MaxInt} {
			all = append(all, api.Value{Kind: kind, Ref: ref})
			all = append(all, api.Value{Kind: kind, Num: math.NaN(), Text: "abc", Ref: ref})
		}
		all = append(all, api.Value{Kind: kind, Num: math.Inf(-1), Text: "a"}, api.Value{Kind: kind, Num: -0.5, Text: long(9000).Text + "a"})
	}
	return all
}

// all makes all calls of two values; none may panic.
func all(h *esheap.Heap, a, b api.Value) {
	Bool(a)
	Type(h, a)
	_, _ = Text(h, a)
	_, _ = Number(h, a)
	Strict(a, b)
	_, _ = Loose(h, a, b)
	_, _ = Less(h, a, b)
	_, _ = Add(h, a, b)
}

// P9.1: no call panics, whatever the values are, and whatever the heap.
func TestWrongValues(t *testing.T) {
	h := esheap.New(100)
	a, _ := h.Array(nil)
	puts(t, h, objectOf(a), objectOf(a), num(1), plain(t, h), funcOf(t, h))
	for _, h := range []*esheap.Heap{nil, {}, esheap.New(0), esheap.New(5), h} {
		for _, a := range wrong() {
			for _, b := range wrong() {
				all(h, a, b)
			}
		}
	}
}

// P9.1: no call changes what is in the heap, and the same call answers the same again.
func TestNothingIsChanged(t *testing.T) {
	h, list := values(t)
	objects, left := h.Size()
	before := seen(h)
	for _, a := range list {
		for _, b := range list {
			all(h, a, b)
		}
	}
	if n, m := h.Size(); n != objects || m != left || seen(h) != before {
		t.Error("a heap has changed")
	}
	other, again := values(t)
	for i, a := range list {
		w, e := Text(h, a)
		if v, f := Text(other, again[i]); v != w || e != f {
			t.Errorf("%s: %s, %s", tell(a), short(w), short(v))
		}
	}
}

// seen tells all that a heap has.
func seen(h *esheap.Heap) (all string) {
	objects, _ := h.Size()
	for i := range objects {
		for _, key := range h.Keys(i) {
			v, _ := h.Own(i, key)
			all += key + tell(v)
		}
	}
	return all
}
