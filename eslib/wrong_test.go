package eslib

import (
	"math"
	"testing"

	"pennant/api"
	"pennant/esheap"
)

// wrong is values that are right in no heap, or not in a small one.
func wrong() (all []api.Value) {
	for _, kind := range []int{math.MinInt, -1, 0, 1, 2, 3, 4, 5, 6, 7, math.MaxInt} {
		for _, ref := range []int{math.MinInt, -1, 0, 1, 2, 3, 4, math.MaxInt} {
			all = append(all, api.Value{Kind: kind, Ref: ref}, api.Value{Kind: kind, Num: math.NaN(), Text: "abc", Ref: ref})
		}
		all = append(all, api.Value{Kind: kind, Num: math.Inf(-1), Text: "a"}, api.Value{Kind: kind, Num: -0.5, Text: long(9000).Text + "a"})
	}
	return all
}

// heaps are none, empty ones, full ones and one with some objects.
func heaps(t *testing.T) []*esheap.Heap {
	t.Helper()
	h := esheap.New(60)
	a := list(t, h, num(1), record(t, h, "k", num(1)), funcOf(t, h))
	calls(t, h, "4", push, a, a)
	return []*esheap.Heap{nil, {}, esheap.New(0), esheap.New(5), h}
}

// P10.1: no call panics, whatever the values are, and whatever the heap.
func TestWrongValues(t *testing.T) {
	for _, h := range heaps(t) {
		for _, v := range wrong() {
			_, _ = Stringify(h, v)
			_, _ = Method(h, v, wideOf("slice"))
			_, _ = Parse(h, v.Text)
			for _, r := range table {
				_, _ = Call(h, r.id, v, nil)
				_, _ = Call(h, r.id, v, args(v, v))
				_, _ = Call(h, r.id, object(0), args(v))
				_, _ = Call(h, r.id, object(2), args(v, num(1)))
				_, _ = Call(h, r.id, str("abc"), args(v, v, v))
			}
			_, _ = Call(h, v.Ref, v, args(v))
		}
		_, _ = Install(h)
	}
}

// P10.1: what needs no cells is answered without a heap too.
func TestNoHeap(t *testing.T) {
	if v, ok := Method(nil, str("a"), wideOf("split")); v != builtin(77) || !ok {
		t.Error(v, ok)
	}
	if v, e := Call(nil, parseInt, undefined(), args(str("7"))); v != num(7) || e != api.OK {
		t.Error(v, e)
	}
	if v, e := Parse(nil, wideOf("[]")); v != undefined() || e != api.ErrHeap {
		t.Error(v, e)
	}
	if g, e := Install(nil); g != 0 || e != api.ErrHeap {
		t.Error(g, e)
	}
}
