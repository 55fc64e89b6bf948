package eslib

import (
	"encoding/json"
	"fmt"
	"math"
	"math/rand"
	"slices"
	"strings"
	"testing"

	"pennant/api"
	"pennant/esheap"
	"pennant/esnum"
)

// tells holds both ways to stringify against what is to come; neither takes a cell.
func tells(t *testing.T, h *esheap.Heap, want string, v api.Value) {
	t.Helper()
	before := seen(h)
	w, e := Stringify(h, v)
	if got := told(h, w, e); got != want {
		t.Errorf("%s: %s, not %s", show(h, v), got, want)
	}
	if u, f := Call(h, stringify, undefined(), args(v, num(1))); u != w || f != e {
		t.Errorf("%s: by Stringify %s, by Call %s", show(h, v), told(h, w, e), told(h, u, f))
	}
	if seen(h) != before {
		t.Errorf("%s: the heap has changed", show(h, v))
	}
}

// P10.1: values of all kinds.
func TestStringify(t *testing.T) {
	h := esheap.New(1000)
	f := funcOf(t, h)
	o := record(t, h, "b", num(1), "a", str("x"))
	child, _ := h.Plain(o.Ref)
	put(t, h, object(child), "c", null())
	a := list(t, h, num(1))
	put(t, h, a, "key", num(2))
	put(t, h, f, "key", num(2))
	for _, c := range []struct {
		v    api.Value
		want string
	}{
		{undefined(), "undefined"}, {f, "undefined"}, {builtin(1), "undefined"}, {builtin(90), "undefined"},
		{null(), "'null'"}, {yes(), "'true'"}, {no(), "'false'"},
		{num(0), "'0'"}, {num(minusNought()), "'0'"}, {num(-1.5), "'-1.5'"}, {num(1e21), "'1e+21'"}, {num(1e-7), "'1e-7'"}, {num(100), "'100'"},
		{num(math.NaN()), "'null'"}, {num(math.Inf(1)), "'null'"}, {num(math.Inf(-1)), "'null'"},
		{str(""), `'""'`}, {str("ab"), `'"ab"'`}, {str(`a"b\c/d'`), `'"a\"b\\c/d'"'`}, {str("\b\f\n\r\t"), `'"\b\f\n\r\t"'`}, {str("\x00\x01\v\x1f"), `'"\u0000\u0001\u000b\u001f"'`},
		{row16(127, 0xe9, 0xd83d, 0xde00, 0xdc00, 0x2028, 0x2200, 0x5c00, 0x100a), `'"\7f;\e9;\d83d;\de00;\dc00;\2028;\2200;\5c00;\100a;"'`},
		{list(t, h), "'[]'"}, {a, "'[1]'"}, {list(t, h, a, a), "'[[1],[1]]'"},
		{list(t, h, undefined(), f, builtin(1), num(math.NaN()), null(), no(), str("x")), `'[null,null,null,null,null,false,"x"]'`},
		{record(t, h), "'{}'"}, {o, `'{"b":1,"a":"x"}'`}, {object(child), `'{"c":null}'`},
		{record(t, h, "a", undefined(), "b", f, "c", builtin(1)), "'{}'"},
		{record(t, h, "a", undefined(), "b", num(1), "c", f, "d", num(math.Inf(1)), "e", builtin(1)), `'{"b":1,"d":null}'`},
		{record(t, h, "2", num(1), "1", num(2), "", num(3), "length", num(4), "a\"\n", num(5)), `'{"2":1,"1":2,"":3,"length":4,"a\"\n":5}'`},
		{record(t, h, "a", list(t, h, record(t, h, "b", list(t, h)))), `'{"a":[{"b":[]}]}'`},
	} {
		tells(t, h, c.want, c.v)
	}
	calls(t, h, "undefined", stringify, o)
	// A key of the heap may be any string; what is written has whole units.
	odd := record(t, h)
	if e := h.Put(odd.Ref, "\x00ab", num(1)); e != api.OK {
		t.Fatal(e)
	}
	tells(t, h, `'{"a":1}'`, odd)
}

// P10.1: all units.
func TestStringifyAllUnits(t *testing.T) {
	h := esheap.New(0)
	for u := range 1 << 16 {
		var want string
		switch short := map[int]string{'"': `\"`, '\\': `\\`, 8: `\b`, 12: `\f`, 10: `\n`, 13: `\r`, 9: `\t`}[u]; {
		case short != "":
			want = wideOf(`"` + short + `"`)
		case u < 32:
			want = wideOf(fmt.Sprintf(`"\u%04x"`, u))
		default:
			want = unitsOf('"', u, '"')
		}
		v, e := Stringify(h, row16(u))
		if v != text(want) || e != api.OK {
			t.Fatal(u, v, e)
		}
		if back, e := Parse(h, v.Text); back != row16(u) || e != api.OK {
			t.Fatal(u, back, e)
		}
	}
}

// P10.1: an Object that stands in itself is ErrThrow; one that stands in others often is none.
func TestStringifyRings(t *testing.T) {
	h := esheap.New(1000)
	a, o := list(t, h), record(t, h)
	calls(t, h, "1", push, a, a)
	tells(t, h, "ErrThrow", a)
	tells(t, h, "ErrThrow", list(t, h, num(1), a))
	put(t, h, o, "x", record(t, h, "y", list(t, h, o)))
	tells(t, h, "ErrThrow", o)
	tells(t, h, "ErrThrow", record(t, h, "z", o))
	one := list(t, h, num(1))
	tells(t, h, `'[[1],[1],{"a":[1],"b":[1]},[[1]]]'`, list(t, h, one, one, record(t, h, "a", one, "b", one), list(t, h, one)))
	// A function is no more than undefined, whatever it has; a prototype is no part of an object.
	f := funcOf(t, h)
	put(t, h, f, "self", f)
	p := record(t, h, "f", f)
	put(t, h, f, "p", p)
	tells(t, h, "'{}'", p)
	child, _ := h.Plain(o.Ref)
	tells(t, h, "'{}'", object(child))
	// An array's properties other than its items are no part of its text.
	b := list(t, h, num(2))
	put(t, h, b, "self", b)
	tells(t, h, "'[2]'", b)
}

// nested is an Object in others, so many in all, with something in the innermost.
func nested(t *testing.T, h *esheap.Heap, deep int, inside api.Value, plainOnes func(i int) bool) api.Value {
	t.Helper()
	for i := range deep {
		if plainOnes(i) {
			inside = record(t, h, "a", inside)
		} else {
			inside = list(t, h, inside)
		}
	}
	return inside
}

// P10.1: an Object may stand in api.MaxNest others, and no more.
func TestStringifyNest(t *testing.T) {
	for _, plainOnes := range []func(i int) bool{func(int) bool { return true }, func(int) bool { return false }, func(i int) bool { return i%2 == 0 }} {
		for deep := 40; deep < 60; deep++ {
			h := esheap.New(1000)
			v := nested(t, h, deep, num(1), plainOnes)
			w, e := Stringify(h, v)
			if deep > 49 && (w != undefined() || e != api.ErrThrow) || deep <= 49 && (w.Kind != api.Text || e != api.OK) {
				t.Error(deep, w, e)
			}
			back, e := Parse(h, w.Text)
			if deep <= 48 && (e != api.OK || back.Kind != api.Object) || deep > 48 && (e != api.ErrSyntax || back != undefined()) {
				t.Error(deep, back, e)
			}
			f, n := Stringify(h, nested(t, h, deep, funcOf(t, h), plainOnes))
			if deep > 49 && (f != undefined() || n != api.ErrThrow) || deep <= 49 && (f.Kind != api.Text || n != api.OK) {
				t.Error(deep, f, n)
			}
		}
	}
}

// P10.1: the text may have api.MaxUnits units, and no more.
func TestStringifyTooLong(t *testing.T) {
	h := esheap.New(api.MaxCells)
	tells(t, h, "8192 units", long(8190))
	tells(t, h, "ErrHeap", long(8191))
	tells(t, h, "ErrHeap", long(1<<20))
	tells(t, h, "8192 units", list(t, h, long(8188)))
	tells(t, h, "ErrHeap", list(t, h, long(8189)))
	tells(t, h, "8192 units", record(t, h, "a", long(8184)))
	tells(t, h, "ErrHeap", record(t, h, "a", long(8185)))
	tells(t, h, "8192 units", str(strings.Repeat("\n", 4095)))
	tells(t, h, "ErrHeap", str(strings.Repeat("\n", 4095)+"x"))
	tells(t, h, "8192 units", str(strings.Repeat("\x00", 1365)))
	tells(t, h, "ErrHeap", str(strings.Repeat("\x00", 1365)+"x"))
	nulls := make([]api.Value, 1638)
	tells(t, h, "8191 units", list(t, h, nulls...))
	tells(t, h, "8192 units", list(t, h, append(nulls[:1637:1637], num(12345))...))
	tells(t, h, "ErrHeap", list(t, h, append(nulls[:1637:1637], num(123456))...))
	tells(t, h, "undefined", funcOf(t, h))
	long := record(t, h, strings.Repeat("k", 8187), num(1))
	tells(t, h, "ErrHeap", long)
	tells(t, h, "8192 units", record(t, h, strings.Repeat("k", 8186), num(1)))
	tells(t, h, "'{}'", record(t, h, strings.Repeat("k", 9000), undefined()))
}

// P10.1: of a ring (or a depth) and a length the one counts that comes first in the text.
func TestStringifyWhatComesFirst(t *testing.T) {
	h := esheap.New(api.MaxCells)
	ring := list(t, h)
	calls(t, h, "1", push, ring, ring)
	deep := nested(t, h, 50, num(1), func(int) bool { return false })
	far := nested(t, h, 49, num(1), func(int) bool { return false })
	for _, c := range []struct {
		units int
		want  string
	}{{1, "ErrThrow"}, {8186, "ErrThrow"}, {8187, "ErrThrow"}, {8188, "ErrHeap"}, {8189, "ErrHeap"}, {9000, "ErrHeap"}} {
		// [ " units " , and the ring's own [ stand ahead of where it begins in itself.
		tells(t, h, c.want, list(t, h, long(c.units), ring))
		// At once behind the comma, where an array that is around would begin.
		o := list(t, h, long(c.units+1))
		calls(t, h, "2", push, o, o)
		tells(t, h, c.want, o)
		p := record(t, h, "a", long(max(0, c.units-7)))
		put(t, h, p, "b", p)
		tells(t, h, c.want, p)
	}
	tells(t, h, "ErrThrow", list(t, h, ring, long(9000)))
	tells(t, h, "ErrThrow", list(t, h, deep, long(9000)))
	tells(t, h, "ErrHeap", list(t, h, long(9000), deep))
	// [ " units " , and 48 more brackets stand ahead of the one that is too deep.
	tells(t, h, "ErrThrow", list(t, h, long(8188-48), far))
	tells(t, h, "ErrHeap", list(t, h, long(8189-48), far))
}

// P10.1: the text of objects that share their parts is put together soon, however often they are met.
func TestStringifyShared(t *testing.T) {
	h := esheap.New(api.MaxCells)
	v := list(t, h)
	for range 48 {
		v = list(t, h, v, v)
	}
	tells(t, h, "ErrHeap", v)
	empty := record(t, h)
	for i := range 6500 {
		if e := h.Put(empty.Ref, esheap.Key(i), undefined()); e != api.OK {
			t.Fatal(e)
		}
	}
	many := make([]api.Value, 2730)
	for i := range many {
		many[i] = empty
	}
	w, e := Stringify(h, list(t, h, many...))
	if want := "[" + strings.Repeat("{},", 2729) + "{}]"; w != str(want) || e != api.OK {
		t.Error(e)
	}
}

// A piece of a text, or a place where an object begins that is thrown of.
type piece struct {
	units  []int
	throws bool
}

func plainPiece(s string) piece { return piece{units: asUnits(wideOf(s))} }

// pieces is a value's text by the chapter's words, with all the places where it can't go on; nothing where it would be undefined.
func pieces(h *esheap.Heap, v api.Value, around []int) []piece {
	switch v.Kind {
	case api.Null:
		return []piece{plainPiece("null")}
	case api.Bool:
		return []piece{plainPiece(fmt.Sprint(v.Num == 1))}
	case api.Number:
		if v.Num-v.Num != 0 {
			return []piece{plainPiece("null")}
		}
		return []piece{plainPiece(esnum.Text(v.Num))}
	case api.Text:
		return []piece{quotedPiece(v.Text)}
	case api.Object:
		return objectPieces(h, v, around)
	}
	return nil
}

// quotedPiece has the library write a text, unit by unit, but for those that it writes otherwise.
func quotedPiece(w string) piece {
	all := []int{'"'}
	for _, u := range asUnits(w) {
		if u >= 32 && u != '"' && u != '\\' {
			all = append(all, u)
			continue
		}
		b, _ := json.Marshal(string(rune(u)))
		all = append(all, asUnits(wideOf(string(b[1:len(b)-1])))...)
	}
	return piece{units: append(all, '"')}
}

func objectPieces(h *esheap.Heap, v api.Value, around []int) (all []piece) {
	kind := h.Kind(v.Ref)
	if kind == 3 {
		return nil
	}
	if slices.Contains(around, v.Ref) || len(around) > 48 {
		return []piece{{throws: true}}
	}
	around = append(slices.Clone(around), v.Ref)
	var parts [][]piece
	if kind == 2 {
		items, _ := h.Items(v.Ref)
		for _, u := range items {
			part := pieces(h, u, around)
			if part == nil {
				part = []piece{plainPiece("null")}
			}
			parts = append(parts, part)
		}
	} else {
		for _, key := range h.Keys(v.Ref) {
			u, _ := h.Own(v.Ref, key)
			if part := pieces(h, u, around); part != nil {
				parts = append(parts, append([]piece{quotedPiece(key), plainPiece(":")}, part...))
			}
		}
	}
	brackets := []string{"", "{}", "[]"}[kind]
	all = append(all, plainPiece(brackets[:1]))
	for i, part := range parts {
		if i > 0 {
			all = append(all, plainPiece(","))
		}
		all = append(all, part...)
	}
	return append(all, plainPiece(brackets[1:]))
}

// secondStringify puts the pieces together, up to the first that can't be.
func secondStringify(h *esheap.Heap, v api.Value) (api.Value, api.Errno) {
	list := pieces(h, v, nil)
	if list == nil {
		return undefined(), api.OK
	}
	var all []int
	for _, p := range list {
		all = append(all, p.units...)
		if p.throws {
			return undefined(), api.ErrThrow
		}
		if len(all) > api.MaxUnits {
			return undefined(), api.ErrHeap
		}
	}
	return row16(all...), api.OK
}

// someValues is a heap with values by dice, that stand in one another, some in themselves.
func someValues(t *testing.T, dice *rand.Rand) (*esheap.Heap, []api.Value) {
	t.Helper()
	h := esheap.New(api.MaxCells)
	all := args(undefined(), null(), yes(), num(0), num(-12.5), num(math.NaN()), str(""), str("a\"\\\n\x01é"), row16(0xd800, 0x2028, 8, 12, 13, 9, 31, 32, 127), builtin(1), funcOf(t, h))
	if dice.Intn(3) == 0 {
		all = append(all, long(8192-dice.Intn(60)), long(4090), long(4090))
	}
	var objects []api.Value
	for range 1 + dice.Intn(6) {
		if dice.Intn(2) == 0 {
			objects = append(objects, record(t, h))
		} else {
			objects = append(objects, list(t, h))
		}
		all = append(all, objects[len(objects)-1])
	}
	rings := dice.Intn(3) == 0
	for i, o := range objects {
		for n := range dice.Intn(4) {
			v := all[dice.Intn(len(all))]
			if v.Kind == api.Object && v.Ref >= objects[i].Ref && !rings {
				continue
			}
			if h.Kind(o.Ref) == 2 {
				calls(t, h, esnum.Text(float64(len(h.Keys(o.Ref))+1)), push, o, v)
			} else {
				put(t, h, o, []string{"a", "b\n", "", "é"}[n], v)
			}
		}
	}
	return h, all
}

// P10.1: stringify by dice, held against the second one.
func TestStringifyByDice(t *testing.T) {
	t.Parallel()
	dice := rand.New(rand.NewSource(21))
	count := map[api.Errno]int{}
	for range 4000 {
		h, all := someValues(t, dice)
		for _, v := range all {
			want, e := secondStringify(h, v)
			tells(t, h, told(h, want, e), v)
			if w, _ := Stringify(h, v); w != want {
				t.Error(show(h, v))
			}
			count[e]++
		}
		if t.Failed() {
			t.Fatal("by dice")
		}
	}
	if count[api.OK] < 10000 || count[api.ErrThrow] < 300 || count[api.ErrHeap] < 200 {
		t.Error(count)
	}
}

// P10.2, by dice: what stringify tells is parsed to a value whose stringify is the same.
func TestThereAndBackOfJSON(t *testing.T) {
	t.Parallel()
	dice := rand.New(rand.NewSource(22))
	for range 4000 {
		h, all := someValues(t, dice)
		for _, v := range all {
			if w, e := Stringify(h, v); e == api.OK && w.Kind == api.Text {
				isThereAndBack(t, w)
			}
		}
		for range 5 {
			s := jsonByDice(dice, 5)
			v, e := Parse(h, wideOf(s))
			if e != api.OK {
				t.Fatal(s, e)
			}
			w, e := Stringify(h, v)
			if e != api.OK || w.Kind != api.Text {
				t.Fatal(s, w, e)
			}
			isThereAndBack(t, w)
		}
	}
}

func isThereAndBack(t *testing.T, w api.Value) {
	t.Helper()
	h := esheap.New(api.MaxCells)
	v, e := Parse(h, w.Text)
	again, f := Stringify(h, v)
	if e != api.OK || f != api.OK || again != w {
		t.Fatal(show(h, w), e, show(h, again), f)
	}
}

// P10.2: numbers of all sizes.
func TestThereAndBackOfNumbers(t *testing.T) {
	dice := rand.New(rand.NewSource(23))
	h := esheap.New(0)
	for range 20000 {
		x := math.Float64frombits(dice.Uint64())
		w, e := Stringify(h, num(x))
		if x-x != 0 {
			if w != str("null") || e != api.OK {
				t.Fatal(x, w, e)
			}
			continue
		}
		v, f := Parse(h, w.Text)
		if e != api.OK || f != api.OK || !isOne(v, num(x)) {
			t.Fatal(x, w, v, e, f)
		}
	}
}
