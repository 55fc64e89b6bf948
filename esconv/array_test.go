package esconv

import (
	"testing"
	"time"

	"pennant/api"
	"pennant/esheap"
)

// P9.1: the texts of an array's items, a comma between each two.
func TestArrays(t *testing.T) {
	h := esheap.New(1000)
	none := list(t, h)
	cases := []struct {
		items []api.Value
		want  string
	}{
		{nil, ""},
		{[]api.Value{undefined()}, ""}, {[]api.Value{null()}, ""}, {[]api.Value{str("")}, ""}, {[]api.Value{none}, ""},
		{[]api.Value{undefined(), undefined()}, ","}, {[]api.Value{null(), undefined(), str(""), none}, ",,,"},
		{[]api.Value{boolean(0)}, "false"}, {[]api.Value{boolean(1), boolean(0)}, "true,false"},
		{[]api.Value{num(1)}, "1"}, {[]api.Value{num(1.5), num(minusNought()), num(1e21)}, "1.5,0,1e+21"},
		{[]api.Value{str("a"), str(","), str("b")}, "a,,,b"}, {[]api.Value{str("undefined"), undefined()}, "undefined,"},
		{[]api.Value{plain(t, h), funcOf(t, h), builtin(2)}, "[object Object],function,function"},
		{[]api.Value{list(t, h, num(1), num(2)), list(t, h, num(3))}, "1,2,3"},
		{[]api.Value{list(t, h, list(t, h, list(t, h, str("x"))))}, "x"},
		{[]api.Value{list(t, h, undefined(), undefined()), none, list(t, h, null())}, ",,,"},
	}
	for _, c := range cases {
		hasText(t, h, list(t, h, c.items...), c.want)
	}
}

// P9.1: an array that stands in itself has no units there, and those around it neither; one that stands twice in another, not in itself, has its text twice.
func TestArraysInThemselves(t *testing.T) {
	h := esheap.New(1000)
	a, b, c := list(t, h, num(1)), list(t, h, num(2)), list(t, h, num(3))
	puts(t, h, a, b, num(4))
	puts(t, h, b, c, c, num(5))
	puts(t, h, c, a, b, c, num(6))
	hasText(t, h, a, "1,2,3,,,,6,3,,,,6,5,4")
	hasText(t, h, b, "2,3,1,,4,,,6,3,1,,4,,,6,5")
	hasText(t, h, c, "3,1,2,,,5,4,2,,,5,,6")
	twice := list(t, h, num(7), num(8))
	hasText(t, h, list(t, h, twice, twice, list(t, h, twice)), "7,8,7,8,7,8")
}

// P9.1: the same of arrays of one item, which write nothing of their own.
func TestArraysOfOneInThemselves(t *testing.T) {
	h := esheap.New(1000)
	one := list(t, h)
	puts(t, h, one, one)
	hasText(t, h, one, "")
	// Two that stand in one another, and a third one outside.
	a := list(t, h)
	b := list(t, h, a)
	puts(t, h, a, b)
	c := list(t, h, a)
	for _, v := range []api.Value{a, b, c} {
		hasText(t, h, v, "")
	}
	hasText(t, h, list(t, h, c, num(1), b, a, c), ",1,,,")
	// A way of arrays of one item from an array back to it.
	loop := list(t, h, num(1))
	way := list(t, h, list(t, h, list(t, h, loop)))
	puts(t, h, loop, way, num(2), way)
	hasText(t, h, loop, "1,,2,")
	hasText(t, h, way, "1,,2,")
	hasText(t, h, list(t, h, way, way), "1,,2,,1,,2,")
}

// P9.1: a text has api.MaxUnits units at most, wherever in it the last one stands.
func TestArraysOfMostUnits(t *testing.T) {
	most := api.MaxUnits
	cases := []struct {
		of   func(h *esheap.Heap, n int) api.Value
		name string
	}{
		{func(h *esheap.Heap, n int) api.Value { return list(t, h, long(n)) }, "a text"},
		{func(h *esheap.Heap, n int) api.Value { return list(t, h, make([]api.Value, n+1)...) }, "commas"},
		{func(h *esheap.Heap, n int) api.Value { return list(t, h, long(n-2), str("a")) }, "a text behind"},
		{func(h *esheap.Heap, n int) api.Value { return list(t, h, long(n-1), undefined()) }, "a comma behind"},
		{func(h *esheap.Heap, n int) api.Value { return list(t, h, str("a"), long(n-3), str("")) }, "a text of no units behind"},
		{func(h *esheap.Heap, n int) api.Value { return list(t, h, list(t, h, list(t, h, long(n)))) }, "one in another"},
		{func(h *esheap.Heap, n int) api.Value { return list(t, h, long(n-16), plain(t, h)) }, "an object"},
		{func(h *esheap.Heap, n int) api.Value { return list(t, h, long(n-9), funcOf(t, h)) }, "a function"},
		{func(h *esheap.Heap, n int) api.Value { return list(t, h, long(n-3), num(12)) }, "a number"},
		{func(h *esheap.Heap, n int) api.Value { return list(t, h, list(t, h, long(n-4)), list(t, h, long(3))) }, "two arrays"},
	}
	for _, c := range cases {
		h := esheap.New(api.MaxCells)
		hasLength(t, h, c.of(h, most), most)
		h = esheap.New(api.MaxCells)
		isTooLong(t, h, c.of(h, most+1))
		if t.Failed() {
			t.Fatal(c.name)
		}
	}
}

// P9.1: what is left out, as an array stands in itself, doesn't count.
func TestLeftOutDoesNotCount(t *testing.T) {
	h := esheap.New(1000)
	a := list(t, h, long(api.MaxUnits-1))
	puts(t, h, a, a)
	hasLength(t, h, a, api.MaxUnits)
	b := list(t, h, a)
	hasLength(t, h, b, api.MaxUnits)
	isTooLong(t, h, list(t, h, a, b))
	puts(t, h, a, b)
	isTooLong(t, h, a)
}

// P9.1: each call ends where arrays share their items: the text grows by two at each step.
func TestSharedArraysEnd(t *testing.T) {
	h := esheap.New(api.MaxCells)
	v := list(t, h)
	for n := 1; n < 300; n++ {
		v = list(t, h, v, v)
		if n <= 13 {
			hasLength(t, h, v, 1<<n-1)
		} else {
			isTooLong(t, h, v)
		}
	}
}

// P9.1: each call ends where each array stands in all.
func TestArraysInAllOthersEnd(t *testing.T) {
	for count := 1; count <= 90; count++ {
		h := esheap.New(api.MaxCells)
		var all []api.Value
		for range count {
			all = append(all, list(t, h))
		}
		for _, v := range all {
			puts(t, h, v, all...)
		}
		// An array's text, while it and others are open, has the commas, and the texts of those that aren't.
		length := 0
		for open := count; open > 0 && length <= api.MaxUnits; open-- {
			length = count - 1 + (count-open)*length
		}
		if length > api.MaxUnits {
			isTooLong(t, h, all[count-1])
			continue
		}
		hasLength(t, h, all[count-1], length)
	}
}

// fork is arrays of two items, so many in one another, with one value at all ends.
func fork(t *testing.T, h *esheap.Heap, deep int, end api.Value) api.Value {
	t.Helper()
	v := end
	for range deep {
		v = list(t, h, v, v)
	}
	return v
}

// P9.1: a call ends soon, however many ways lead down long chains of arrays of one item: it takes about as long as without the chain, where going down each way would take some thousand times as long.
func TestLongChains(t *testing.T) {
	h := esheap.New(api.MaxCells)
	bare := fork(t, h, 13, undefined())
	last := list(t, h, undefined())
	v := last
	for range 4800 {
		v = list(t, h, v)
	}
	v = fork(t, h, 13, v)
	hasLength(t, h, bare, 8191)
	for _, end := range []api.Value{undefined(), bare, v, last} {
		if e := h.Put(last.Ref, esheap.Key(0), end); e != api.OK {
			t.Fatal(e)
		}
		if isOne(end, bare) {
			isTooLong(t, h, v)
		} else {
			hasLength(t, h, v, 8191)
		}
		isSoon(t, h, v, bare)
		isSoon(t, h, last, bare)
	}
	hasText(t, h, last, "")
}

// isSoon says that a value's text is told about as soon as another one's.
func isSoon(t *testing.T, h *esheap.Heap, v, other api.Value) {
	t.Helper()
	if of, as := leastTime(h, v), leastTime(h, other); of > 200*as {
		t.Error(of, as)
	}
}

func leastTime(h *esheap.Heap, v api.Value) time.Duration {
	least := time.Hour
	for range 3 {
		start := time.Now()
		_, _ = Text(h, v)
		least = min(least, time.Since(start))
	}
	return least
}

// P9.1: the deepest arrays that a heap has room for.
func TestDeepArrays(t *testing.T) {
	h := esheap.New(api.MaxCells)
	v := list(t, h, str("x"))
	for range 4999 {
		v = list(t, h, v)
	}
	hasText(t, h, v, "x")
	h = esheap.New(api.MaxCells)
	v = list(t, h)
	for range 3333 {
		v = list(t, h, v, undefined())
	}
	hasLength(t, h, v, 3333)
	h = esheap.New(api.MaxCells)
	v = list(t, h, make([]api.Value, api.MaxCells-1)...)
	isTooLong(t, h, v)
}
