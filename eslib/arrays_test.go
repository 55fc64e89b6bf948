package eslib

import (
	"math"
	"math/rand"
	"slices"
	"strings"
	"testing"

	"pennant/api"
	"pennant/esconv"
	"pennant/esheap"
)

// P10.1: push and pop.
func TestPushAndPop(t *testing.T) {
	h := esheap.New(100)
	a := list(t, h)
	calls(t, h, "undefined", pop, a)
	calls(t, h, "0", push, a)
	calls(t, h, "1", push, a, num(5))
	calls(t, h, "1", push, a)
	calls(t, h, "4", push, a, undefined(), a, str("x"))
	calls(t, h, "'x'", pop, a, num(0))
	put(t, h, a, "key", num(1))
	calls(t, h, "4", push, a, null())
	calls(t, h, "null", pop, a)
	if v, e := Call(h, pop, a, nil); v != a || e != api.OK {
		t.Error(v, e)
	}
	if got := show(h, a); got != "[5, undefined, 'key': 1]" {
		t.Error(got)
	}
	calls(t, h, "undefined", pop, a)
	calls(t, h, "5", pop, a)
	calls(t, h, "undefined", pop, a)
	if n, left := h.Size(); n != 1 || left != 98 {
		t.Error(n, left)
	}
}

// P10.1: where cells lack, push has put the arguments that came in.
func TestPushWithoutCells(t *testing.T) {
	for cells := range 5 {
		h := leaves(t, cells, func(h *esheap.Heap) { list(t, h, num(7)) })
		a := object(0)
		want := "[7, 1, 2, 3]"
		if cells < 3 {
			want = []string{"[7]", "[7, 1]", "[7, 1, 2]"}[cells]
			calls(t, h, "ErrHeap", push, a, num(1), num(2), num(3))
		} else {
			calls(t, h, "4", push, a, num(1), num(2), num(3))
		}
		if _, left := h.Size(); show(h, a) != want || left != max(0, cells-3) {
			t.Error(cells, show(h, a), left)
		}
		if cells > 0 {
			calls(t, h, want[strings.LastIndex(want, " ")+1:len(want)-1], pop, a)
		}
	}
}

// asPlace is a place from the end by the chapter's words.
func asPlace(x float64, length int) int {
	whole := 0.0
	if x == x {
		whole = math.Trunc(x)
	}
	if whole < 0 {
		whole += float64(length)
	}
	return int(math.Max(0, math.Min(whole, float64(length))))
}

// someNumbers are places at all sides of the ends of what has up to four items or units.
func someNumbers() []float64 {
	all := []float64{math.NaN(), math.Inf(1), math.Inf(-1), minusNought(), 1e300, -1e300, 9007199254740993, -9007199254740993, 4294967296, -4294967296, 4294967297, 9223372036854775808, -9223372036854775808, 18446744073709551616, 5e-324, -5e-324}
	for i := -6; i <= 6; i++ {
		all = append(all, float64(i), float64(i)+0.5, float64(i)-0.25)
	}
	return all
}

// P10.1: slice, of all places.
func TestArraySlice(t *testing.T) {
	whole := []string{"1", "'b'", "undefined", "null"}
	values := args(num(1), str("b"), undefined(), null())
	for length := range 5 {
		for _, from := range someNumbers() {
			h := esheap.New(api.MaxCells)
			a := list(t, h, values[:length]...)
			first := asPlace(from, length)
			calls(t, h, "["+strings.Join(whole[first:length], ", ")+"]", arraySlice, a, num(from))
			calls(t, h, "["+strings.Join(whole[first:length], ", ")+"]", arraySlice, a, num(from), undefined())
			for _, to := range someNumbers() {
				last := max(first, asPlace(to, length))
				calls(t, h, "["+strings.Join(whole[first:last], ", ")+"]", arraySlice, a, num(from), num(to), num(1))
			}
		}
	}
	h := esheap.New(100)
	a := list(t, h, num(1), num(2), num(3))
	put(t, h, a, "key", num(9))
	calls(t, h, "[1, 2, 3]", arraySlice, a)
	calls(t, h, "[1, 2]", arraySlice, a, undefined(), num(-1))
	calls(t, h, "[]", arraySlice, a, num(0), null())
	calls(t, h, "[2]", arraySlice, a, str(" 1 "), list(t, h, num(2)))
	calls(t, h, "[1, 2, 3]", arraySlice, a, record(t, h))
	calls(t, h, "[]", arraySlice, a, num(0), record(t, h))
	calls(t, h, "[2, 3]", arraySlice, a, yes())
}

// P10.1: join.
func TestJoin(t *testing.T) {
	h := esheap.New(300)
	a := list(t, h, num(1), undefined(), null(), str("x"), yes(), list(t, h, num(2), num(3)), record(t, h), funcOf(t, h), builtin(1))
	calls(t, h, "'1,,,x,true,2,3,[object Object],function,function'", join, a)
	calls(t, h, "'1,,,x,true,2,3,[object Object],function,function'", join, a, undefined())
	calls(t, h, "'1xtrue2,3[object Object]functionfunction'", join, a, str(""))
	b := list(t, h, num(1), num(2))
	calls(t, h, "'1null2'", join, b, null())
	calls(t, h, "'172'", join, b, num(7), num(8))
	calls(t, h, "'13,42'", join, b, list(t, h, num(3), num(4)))
	calls(t, h, "'11,22'", join, b, b)
	calls(t, h, "'1, 2'", join, b, str(", "))
	calls(t, h, "''", join, list(t, h), str("x"))
	calls(t, h, "''", join, list(t, h, undefined()), str("x"))
	calls(t, h, "'x'", join, list(t, h, null(), null()), str("x"))
	calls(t, h, "'5'", join, list(t, h, num(5)), str("x"))
	put(t, h, b, "key", num(9))
	calls(t, h, "'1,2'", join, b)
}

// P10.1: an array in itself has the text without units there; other items have their own texts.
func TestJoinOfRings(t *testing.T) {
	h := esheap.New(300)
	a := list(t, h)
	calls(t, h, "3", push, a, a, num(1), a)
	calls(t, h, "',1,'", join, a)
	calls(t, h, "'-1-'", join, a, str("-"))
	calls(t, h, "'-1-'", join, a, str("-"), a)
	calls(t, h, "',1,1,1,'", join, a, a)
	inner := list(t, h)
	outer := list(t, h, inner, num(1))
	calls(t, h, "1", push, inner, outer)
	// The text of inner is that of outer in it, in which inner stands again.
	calls(t, h, "',1-1'", join, outer, str("-"))
	calls(t, h, "',1'", join, inner, str("-"))
}

// P10.1: join's text may have api.MaxUnits units, and no more.
func TestJoinTooLong(t *testing.T) {
	h := esheap.New(api.MaxCells)
	most := list(t, h, long(4000), long(4191))
	calls(t, h, "8192 units", join, most)
	calls(t, h, "8191 units", join, most, str(""))
	changesNothing(t, h, "ErrHeap", join, most, str("ab"))
	changesNothing(t, h, "ErrHeap", join, list(t, h, long(4000), long(4192)))
	calls(t, h, "8192 units", join, list(t, h, long(4000), long(4192)), str(""))
	calls(t, h, "8192 units", join, list(t, h, long(8192)), str("ab"))
	changesNothing(t, h, "ErrHeap", join, list(t, h, long(8193)), str("ab"))
	changesNothing(t, h, "ErrHeap", join, list(t, h, long(8192), null()))
	calls(t, h, "8192 units", join, list(t, h, null(), null()), long(8192))
	calls(t, h, "''", join, list(t, h, null()), long(8193))
	calls(t, h, "''", join, list(t, h), long(8193))
	changesNothing(t, h, "ErrHeap", join, list(t, h, null(), null()), long(8193))
	changesNothing(t, h, "ErrHeap", join, list(t, h), list(t, h, long(8193)))
	calls(t, h, "4096 units", join, list(t, h, make([]api.Value, 4097)...))
	calls(t, h, "8192 units", join, list(t, h, make([]api.Value, 4097)...), str("ab"))
}

// P10.1: indexOf goes by Strict.
func TestArrayIndexOf(t *testing.T) {
	h := esheap.New(100)
	o, f := record(t, h), funcOf(t, h)
	a := list(t, h, num(math.NaN()), num(0), str("1"), num(1), o, null(), undefined(), yes(), f, builtin(1), num(1), str("ab"))
	for _, c := range []struct {
		v    api.Value
		want string
	}{
		{num(math.NaN()), "-1"}, {num(0), "1"}, {num(minusNought()), "1"}, {str("1"), "2"}, {num(1), "3"}, {o, "4"}, {null(), "5"}, {undefined(), "6"}, {yes(), "7"}, {f, "8"},
		{builtin(1), "9"}, {str("ab"), "11"}, {str("a"), "-1"}, {no(), "-1"}, {record(t, h), "-1"}, {a, "-1"}, {builtin(2), "-1"}, {num(2), "-1"},
	} {
		calls(t, h, c.want, arrayIndexOf, a, c.v)
		calls(t, h, c.want, arrayIndexOf, a, c.v, num(11))
	}
	calls(t, h, "6", arrayIndexOf, a)
	calls(t, h, "-1", arrayIndexOf, list(t, h))
	calls(t, h, "0", arrayIndexOf, list(t, h, undefined()))
}

// P10.1: concat.
func TestConcat(t *testing.T) {
	h := esheap.New(300)
	a, b := list(t, h, num(1)), list(t, h, num(2), list(t, h, num(3)))
	put(t, h, b, "key", num(9))
	o := record(t, h, "length", num(1), "0", num(7))
	calls(t, h, "[1]", concat, a)
	calls(t, h, "[1, 2, [3]]", concat, a, b)
	calls(t, h, "[1, 1, 1]", concat, a, a, a)
	calls(t, h, "[1, 5, undefined, null, 'x', {'length': 1, '0': 7}, #50]", concat, a, num(5), undefined(), null(), str("x"), o, builtin(50))
	calls(t, h, "[1]", concat, list(t, h), list(t, h), a, list(t, h))
	calls(t, h, "[2, [3], undefined, 1]", concat, b, undefined(), a)
	if show(h, a) != "[1]" || show(h, b) != "[2, [3], 'key': 9]" {
		t.Error(show(h, a), show(h, b))
	}
}

// P10.1: what would be more than any heap has is ErrHeap, soon.
func TestConcatMuch(t *testing.T) {
	h := esheap.New(api.MaxCells)
	a := list(t, h, make([]api.Value, 5000)...)
	many := make([]api.Value, 4000)
	for i := range many {
		many[i] = a
	}
	changesNothing(t, h, "ErrHeap", concat, a, many...)
	changesNothing(t, h, "ErrHeap", concat, a, a)
	v, e := Call(h, concat, list(t, h), args(list(t, h, make([]api.Value, 2497)...), num(1)))
	if items, ok := h.Items(v.Ref); e != api.OK || !ok || len(items) != 2498 {
		t.Error(v, e, len(items))
	}
	if _, left := h.Size(); left != api.MaxCells-5001-1-2498-2499 {
		t.Error(left)
	}
}

// P10.1: reverse is done in place.
func TestReverse(t *testing.T) {
	h := leaves(t, 0, func(h *esheap.Heap) {
		list(t, h)
		list(t, h, num(1))
		list(t, h, num(1), str("b"))
		a := list(t, h, num(1), undefined(), null())
		put(t, h, a, "key", num(9))
	})
	for i, want := range []string{"[]", "[1]", "['b', 1]", "[null, undefined, 1, 'key': 9]"} {
		v, e := Call(h, reverse, object(i), args(num(5)))
		if v != object(i) || e != api.OK || show(h, v) != want {
			t.Error(v, e, show(h, v))
		}
	}
}

// P10.1: the calls that make an array take a cell for it and one for each item, or none.
func TestNewArraysWithoutCells(t *testing.T) {
	for cells := range 6 {
		for _, c := range []struct {
			id   int
			this api.Value
			args []api.Value
		}{
			{arraySlice, object(0), nil}, {arraySlice, object(0), args(num(-3), num(9))}, {concat, object(0), nil}, {concat, object(1), args(num(1), object(1), num(2))},
			{split, str("abc"), args(str(""))}, {split, str(",,"), args(str(","))},
		} {
			h := leaves(t, cells, func(h *esheap.Heap) {
				list(t, h, num(1), num(2), num(3))
				list(t, h, num(1))
			})
			want := 3
			if c.id == concat && c.this == object(1) {
				want = 4
			}
			if cells <= want {
				changesNothing(t, h, "ErrHeap", c.id, c.this, c.args...)
				continue
			}
			v, e := Call(h, c.id, c.this, c.args)
			items, ok := h.Items(v.Ref)
			n, left := h.Size()
			if e != api.OK || v != object(2) || !ok || len(items) != want || n != 3 || left != cells-1-want {
				t.Error(c.id, v, e, items, n, left)
			}
		}
	}
}

// someArray is an array of values of all kinds by dice, with itself in it now and then.
func someArray(t *testing.T, h *esheap.Heap, dice *rand.Rand) api.Value {
	t.Helper()
	all := args(undefined(), null(), yes(), no(), num(1), num(math.Inf(1)), num(minusNought()), str(""), str("ab"), row16(0xdc00), builtin(3), record(t, h), list(t, h, num(1)), funcOf(t, h))
	a := list(t, h)
	all = append(all, a)
	var items []api.Value
	for range dice.Intn(7) {
		items = append(items, all[dice.Intn(len(all))])
	}
	if _, e := Call(h, push, a, items); e != api.OK {
		t.Fatal(e)
	}
	return a
}

// P10.3, of many arrays by dice.
func TestThereAndBackOfArrays(t *testing.T) {
	dice := rand.New(rand.NewSource(3))
	for range 3000 {
		h := esheap.New(200)
		a := someArray(t, h, dice)
		if dice.Intn(2) == 0 {
			put(t, h, a, "key", num(1))
		}
		before := seen(h)
		for range 2 {
			if v, e := Call(h, reverse, a, nil); v != a || e != api.OK {
				t.Fatal(v, e)
			}
		}
		if seen(h) != before {
			t.Fatal(before, seen(h))
		}
		v := []api.Value{num(7), undefined(), a, str("x")}[dice.Intn(4)]
		_, e := Call(h, push, a, args(v))
		back, f := Call(h, pop, a, nil)
		if e != api.OK || f != api.OK || back != v || seen(h) != before {
			t.Fatal(e, f, back, before, seen(h))
		}
		isCopied(t, h, a)
	}
}

// isCopied says that slice(0) and concat() answer an array of the same items, which is another one.
func isCopied(t *testing.T, h *esheap.Heap, a api.Value) {
	t.Helper()
	items, _ := h.Items(a.Ref)
	for _, call := range []func() (api.Value, api.Errno){
		func() (api.Value, api.Errno) { return Call(h, arraySlice, a, args(num(0))) },
		func() (api.Value, api.Errno) { return Call(h, concat, a, nil) },
	} {
		n, _ := h.Size()
		v, e := call()
		copied, ok := h.Items(v.Ref)
		if e != api.OK || v != object(n) || !ok || !slices.Equal(copied, items) || len(h.Keys(v.Ref)) != len(items) {
			t.Fatal(v, e, copied, items)
		}
		if _, e := Call(h, push, v, args(num(8))); e != api.OK {
			t.Fatal(e)
		}
		if now, _ := h.Items(a.Ref); !slices.Equal(now, items) {
			t.Fatal("a copy is no copy")
		}
	}
}

// P10.1: calls of arrays' methods by dice, one behind the other, held against lists of Go.
func TestArraysByDice(t *testing.T) {
	dice := rand.New(rand.NewSource(4))
	places := someNumbers()
	for range 400 {
		h := esheap.New(api.MaxCells)
		a := someArray(t, h, dice)
		items, _ := h.Items(a.Ref)
		for range 40 {
			x, y := places[dice.Intn(len(places))], places[dice.Intn(len(places))]
			v, w := num(float64(dice.Intn(4))), []api.Value{undefined(), null(), str("q"), num(x)}[dice.Intn(4)]
			switch dice.Intn(7) {
			case 0:
				items = append(items, v, w)
				calls(t, h, show(h, num(float64(len(items)))), push, a, v, w)
			case 1:
				last := undefined()
				if len(items) > 0 {
					last = items[len(items)-1]
					items = items[:len(items)-1]
				}
				if v, e := Call(h, pop, a, nil); !isOne(v, last) || e != api.OK {
					t.Fatal(v, e)
				}
			case 2:
				from, to := asPlace(x, len(items)), asPlace(y, len(items))
				calls(t, h, showAll(h, items[from:max(from, to)]), arraySlice, a, num(x), num(y))
			case 3:
				var parts []string
				for _, v := range items {
					s, e := esconv.Text(h, v)
					if e != api.OK || v.Kind <= api.Null || v == a {
						s = ""
					}
					parts = append(parts, s)
				}
				calls(t, h, show(h, text(strings.Join(parts, wideOf("--")))), join, a, str("--"))
			case 4:
				calls(t, h, show(h, num(float64(slices.IndexFunc(items, func(u api.Value) bool { return esconv.Strict(u, v) })))), arrayIndexOf, a, v)
			case 5:
				calls(t, h, showAll(h, slices.Concat(items, items, args(v), args(w))), concat, a, a, v, w)
			default:
				slices.Reverse(items)
				if u, e := Call(h, reverse, a, nil); u != a || e != api.OK {
					t.Fatal(u, e)
				}
			}
			if now, _ := h.Items(a.Ref); showAll(h, now) != showAll(h, items) || t.Failed() {
				t.Fatal(showAll(h, now), showAll(h, items))
			}
			// Nothing may be shared with what the next calls change.
			items = slices.Clone(items)
		}
	}
}

// showAll tells values as show tells an array of them.
func showAll(h *esheap.Heap, items []api.Value) string {
	var all []string
	for _, v := range items {
		all = append(all, shown(h, v, 5))
	}
	return "[" + strings.Join(all, ", ") + "]"
}
