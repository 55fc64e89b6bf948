package eslib

import (
	"math"
	"strconv"
	"strings"
	"testing"

	"pennant/api"
	"pennant/esheap"
	"pennant/esnum"
	"pennant/utf"
)

func undefined() api.Value            { return api.Value{} }
func num(x float64) api.Value         { return number(x) }
func str(s string) api.Value          { return text(wideOf(s)) }
func minusNought() float64            { return math.Copysign(0, -1) }
func row16(u ...int) api.Value        { return text(unitsOf(u...)) }
func long(n int) api.Value            { return str(strings.Repeat("x", n)) }
func yes() api.Value                  { return boolean(true) }
func no() api.Value                   { return boolean(false) }
func args(l ...api.Value) []api.Value { return l }

// wideOf is a text as a wide one; its characters stand below 10000 (in sixteens).
func wideOf(s string) string {
	var b []byte
	for _, c := range s {
		b = append(b, byte(c>>8), byte(c))
	}
	return string(b)
}

// unitsOf is a wide text of any units.
func unitsOf(list ...int) string {
	var b []byte
	for _, u := range list {
		b = append(b, byte(u>>8), byte(u))
	}
	return string(b)
}

// asUnits is a wide text's units.
func asUnits(w string) (list []int) {
	for i := 0; i+1 < len(w); i += 2 {
		list = append(list, int(w[i])<<8|int(w[i+1]))
	}
	return list
}

func record(t *testing.T, h *esheap.Heap, namesAndValues ...any) api.Value {
	t.Helper()
	i, e := h.Plain(-1)
	if e != api.OK {
		t.Fatal(e)
	}
	for n := 0; n < len(namesAndValues); n += 2 {
		put(t, h, object(i), namesAndValues[n].(string), namesAndValues[n+1].(api.Value))
	}
	return object(i)
}

func list(t *testing.T, h *esheap.Heap, items ...api.Value) api.Value {
	t.Helper()
	i, e := h.Array(items)
	if e != api.OK {
		t.Fatal(e)
	}
	return object(i)
}

func funcOf(t *testing.T, h *esheap.Heap) api.Value {
	t.Helper()
	i, e := h.Function(4, 5, -1)
	if e != api.OK {
		t.Fatal(e)
	}
	return object(i)
}

func put(t *testing.T, h *esheap.Heap, o api.Value, name string, v api.Value) {
	t.Helper()
	if e := h.Put(o.Ref, wideOf(name), v); e != api.OK {
		t.Fatal(e)
	}
}

func isOne(a, b api.Value) bool {
	return a.Kind == b.Kind && esnum.Same(a.Num, b.Num) && a.Text == b.Text && a.Ref == b.Ref
}

// show tells a value whole, with all that its objects have; what isn't as it has to be is told by a ?.
func show(h *esheap.Heap, v api.Value) string { return shown(h, v, 6) }

func shown(h *esheap.Heap, v api.Value, deep int) string {
	spare := api.Value{Kind: v.Kind}
	said := "?"
	switch v.Kind {
	case api.Undefined:
		said = "undefined"
	case api.Null:
		said = "null"
	case api.Bool:
		spare.Num, said = v.Num, []string{"false", "true"}[int(v.Num)]
	case api.Number:
		spare.Num, said = v.Num, strconv.FormatFloat(v.Num, 'g', -1, 64)
	case api.Text:
		spare.Text, said = v.Text, showText(v.Text)
	case api.Object:
		spare.Ref, said = v.Ref, showObject(h, v.Ref, deep)
	case api.Builtin:
		spare.Ref, said = v.Ref, "#"+strconv.Itoa(v.Ref)
	}
	if spare != v && v.Num == v.Num || math.Signbit(v.Num) != math.Signbit(spare.Num) {
		return "?" + said
	}
	return said
}

func showText(w string) string {
	if len(w)%2 != 0 {
		return "?"
	}
	if len(w) > 400 {
		return strconv.Itoa(len(w)/2) + " units"
	}
	out := "'"
	for _, u := range asUnits(w) {
		if u >= 32 && u < 127 {
			out += string(rune(u))
		} else {
			out += `\` + strconv.FormatInt(int64(u), 16) + ";"
		}
	}
	return out + "'"
}

func showObject(h *esheap.Heap, ref, deep int) string {
	if deep == 0 {
		return ".."
	}
	var all []string
	items, _ := h.Items(ref)
	for _, v := range items {
		all = append(all, shown(h, v, deep-1))
	}
	for _, key := range h.Keys(ref)[len(items):] {
		v, _ := h.Own(ref, key)
		all = append(all, showText(key)+": "+shown(h, v, deep-1))
	}
	out := strings.Join(all, ", ")
	if h.Proto(ref) >= 0 {
		out += " <" + strconv.Itoa(h.Proto(ref))
	}
	return []string{"?", "{" + out + "}", "[" + out + "]", "function(" + out + ")"}[h.Kind(ref)]
}

// told is an answer, or the error; where more than the error is told it isn't as it has to be.
func told(h *esheap.Heap, v api.Value, e api.Errno) string {
	name := map[api.Errno]string{api.ErrThrow: "ErrThrow", api.ErrSyntax: "ErrSyntax", api.ErrHeap: "ErrHeap"}[e]
	switch {
	case e == api.OK:
		return show(h, v)
	case name == "" || v != api.Value{}:
		return "? " + e.Error() + " " + show(h, v)
	}
	return name
}

func calls(t *testing.T, h *esheap.Heap, want string, id int, this api.Value, args ...api.Value) {
	t.Helper()
	v, e := Call(h, id, this, args)
	if got := told(h, v, e); got != want {
		var all []string
		for _, a := range args {
			all = append(all, show(h, a))
		}
		t.Errorf("%d of %s with %s: %s, not %s", id, show(h, this), strings.Join(all, " "), got, want)
	}
}

// seen tells all that a heap has.
func seen(h *esheap.Heap) string {
	objects, left := h.Size()
	all := strconv.Itoa(objects) + " " + strconv.Itoa(left)
	for i := range objects {
		all += " " + shown(h, object(i), 2)
	}
	return all
}

// changesNothing says of a call that is to fail that the heap stays as it is.
func changesNothing(t *testing.T, h *esheap.Heap, want string, id int, this api.Value, args ...api.Value) {
	t.Helper()
	before := seen(h)
	calls(t, h, want, id, this, args...)
	if after := seen(h); after != before {
		t.Errorf("%d: the heap was %s, is %s", id, before, after)
	}
}

// leaves is a heap with some objects and so many cells left.
func leaves(t *testing.T, cells int, make func(h *esheap.Heap)) *esheap.Heap {
	t.Helper()
	h := esheap.New(api.MaxCells)
	make(h)
	_, left := h.Size()
	smaller := esheap.New(api.MaxCells - left + cells)
	make(smaller)
	if _, left := smaller.Size(); left != cells {
		t.Fatal(left)
	}
	return smaller
}

// The examples of the chapter.
func TestExamples(t *testing.T) {
	h := esheap.New(100)
	calls(t, h, "12", parseInt, undefined(), str("12px"))
	calls(t, h, "31", parseInt, undefined(), str("0x1F"))
	calls(t, h, "0", parseInt, undefined(), str("0x1F"), num(10))
	calls(t, h, "NaN", parseInt, undefined(), str("z"))
	calls(t, h, "-Inf", greatest, undefined())
	value := record(t, h, "a", list(t, h, num(1), undefined(), str("x")))
	calls(t, h, `'{"a":[1,null,"x"]}'`, stringify, undefined(), value)
	calls(t, h, "ErrSyntax", parse, undefined(), str("[1,]"))
	calls(t, h, "'ab'", substring, str("abc"), num(2), num(0))
	calls(t, h, "'bc'", textSlice, str("abc"), num(-2))
	calls(t, h, "['a', 'b', '']", split, str("a,b,"), str(","))
}

// P10.1: the builtins have the chapter's numbers.
func TestNumbers(t *testing.T) {
	h := esheap.New(100)
	a := list(t, h, num(2), num(-3))
	w := str("aB")
	for _, c := range []struct {
		id   int
		this api.Value
		args []api.Value
		want string
	}{
		{1, w, args(str("7")), "7"}, {2, w, args(num(7)), "'7'"}, {3, w, args(num(7)), "true"},
		{4, w, args(w), "true"}, {5, w, args(str("7b")), "7"},
		{10, w, args(num(-1.5)), "1.5"}, {11, w, args(num(-1.5)), "-2"}, {12, w, args(num(1.5)), "2"},
		{13, w, args(num(1), num(2)), "2"}, {14, w, args(num(1), num(2)), "1"},
		{20, w, args(str("[7]")), "[7]"}, {21, w, args(a), "'[2,-3]'"},
		{30, w, args(a), "['0', '1']"}, {31, w, args(null()), "{}"}, {40, w, args(a), "true"},
		{50, a, args(w), "3"}, {51, a, nil, "'aB'"}, {52, a, args(num(1)), "[-3]"}, {53, a, nil, "'2,-3'"},
		{54, a, args(num(-3)), "1"}, {55, a, args(w), "[2, -3, 'aB']"}, {56, a, nil, "[-3, 2]"},
		{70, w, args(num(1)), "'B'"}, {71, w, args(num(1)), "66"}, {72, w, args(str("B")), "1"},
		{73, w, args(num(1)), "'B'"}, {74, w, args(num(-2)), "'aB'"}, {75, w, nil, "'AB'"}, {76, w, nil, "'ab'"},
		{77, w, args(str("")), "['a', 'B']"},
	} {
		calls(t, h, c.want, c.id, c.this, c.args...)
	}
}

// P10.1: no other number is a builtin's (90 neither, which a machine knows).
func TestOtherNumbers(t *testing.T) {
	h := esheap.New(100)
	a := list(t, h, num(1))
	known := map[int]bool{}
	for _, id := range []int{1, 2, 3, 4, 5, 10, 11, 12, 13, 14, 20, 21, 30, 31, 40, 50, 51, 52, 53, 54, 55, 56, 70, 71, 72, 73, 74, 75, 76, 77} {
		known[id] = true
	}
	ids := []int{math.MinInt, math.MaxInt, 1 << 40}
	for id := -300; id < 300; id++ {
		ids = append(ids, id)
	}
	for _, id := range ids {
		if known[id] {
			continue
		}
		for _, this := range args(undefined(), a, str("abc")) {
			changesNothing(t, h, "ErrThrow", id, this)
			changesNothing(t, h, "ErrThrow", id, this, a, num(1))
			changesNothing(t, h, "ErrThrow", id, this, list(t, h, long(api.MaxUnits+1)))
		}
		h = esheap.New(100)
		a = list(t, h, num(1))
	}
}

// P10.1: the methods' names are those of their own kind's alone.
func TestMethod(t *testing.T) {
	h := esheap.New(100)
	ofArrays := map[string]int{"push": 50, "pop": 51, "slice": 52, "join": 53, "indexOf": 54, "concat": 55, "reverse": 56}
	ofTexts := map[string]int{"charAt": 70, "charCodeAt": 71, "indexOf": 72, "substring": 73, "slice": 74, "toUpperCase": 75, "toLowerCase": 76, "split": 77}
	names := []string{"", "length", "0", "Push", "pus", "pushh", "push ", "Number", "max", "abs", "parse", "keys", "isArray", "toString", "é", "ŕush"}
	for _, m := range []map[string]int{ofArrays, ofTexts} {
		for name := range m {
			names = append(names, name)
		}
	}
	none := map[string]int{}
	for _, c := range []struct {
		v    api.Value
		have map[string]int
	}{
		{list(t, h), ofArrays}, {list(t, h, num(1)), ofArrays}, {str(""), ofTexts}, {str("push"), ofTexts},
		{record(t, h), none}, {funcOf(t, h), none}, {undefined(), none}, {null(), none}, {yes(), none}, {num(1), none}, {builtin(50), none}, {builtin(1), none},
	} {
		for _, name := range names {
			v, ok := Method(h, c.v, wideOf(name))
			want := undefined()
			if c.have[name] > 0 {
				want = builtin(c.have[name])
			}
			if v != want || ok != (c.have[name] > 0) {
				t.Errorf("%q of %s: %s, %v", name, show(h, c.v), show(h, v), ok)
			}
			for _, other := range []string{name, wideOf(name) + "x", wideOf(name) + "\x00", wideOf(name)[min(1, len(wideOf(name))):]} {
				if other == "" {
					continue
				}
				if v, ok := Method(h, c.v, other); ok || v != undefined() {
					t.Errorf("%q of %s: %s, %v", other, show(h, c.v), show(h, v), ok)
				}
			}
		}
	}
}

// P10.1: what Install makes, in which order, and by which numbers.
func TestInstall(t *testing.T) {
	h := esheap.New(100)
	record(t, h)
	list(t, h, num(1))
	g, e := Install(h)
	if g != 2 || e != api.OK {
		t.Fatal(g, e)
	}
	want := "{'undefined': undefined, 'NaN': NaN, 'Infinity': +Inf, " +
		"'Number': #1, 'String': #2, 'Boolean': #3, 'isNaN': #4, 'parseInt': #5, " +
		"'Math': {'abs': #10, 'floor': #11, 'ceil': #12, 'max': #13, 'min': #14}, " +
		"'JSON': {'parse': #20, 'stringify': #21}, " +
		"'Object': {'keys': #30, 'create': #31}, " +
		"'Array': {'isArray': #40}}"
	if got := show(h, object(g)); got != want {
		t.Error(got)
	}
	for i, name := range []string{"Math", "JSON", "Object", "Array"} {
		v, ok := h.Own(g, wideOf(name))
		if !ok || v != object(g+1+i) || h.Kind(v.Ref) != 1 || h.Proto(v.Ref) != -1 {
			t.Error(name, v, ok)
		}
	}
	if objects, left := h.Size(); objects != 7 || left != 100-3-27 || h.Proto(g) != -1 || h.Kind(g) != 1 {
		t.Error(objects, left)
	}
	again, e := Install(h)
	if again != 7 || e != api.OK || show(h, object(again)) != want {
		t.Error(again, e)
	}
}

// P10.1: where cells lack, Install takes none.
func TestInstallWithoutCells(t *testing.T) {
	for cells := range 27 {
		h := leaves(t, cells, func(h *esheap.Heap) { list(t, h, num(1)) })
		before := seen(h)
		if g, e := Install(h); g != 0 || e != api.ErrHeap || seen(h) != before {
			t.Error(cells, g, e)
		}
	}
	h := leaves(t, 27, func(h *esheap.Heap) { list(t, h, num(1)) })
	if g, e := Install(h); g != 1 || e != api.OK {
		t.Error(g, e)
	}
	if _, left := h.Size(); left != 0 {
		t.Error(left)
	}
}

// P10.1: each argument that lacks is Undefined.
func TestArgumentsThatLack(t *testing.T) {
	for _, r := range table {
		if r.id == toNumber || r.id == toText || r.id == greatest || r.id == least || r.id == push || r.id == concat {
			continue
		}
		for count := range 3 {
			for _, first := range args(str("a"), num(1), null()) {
				given := args(first, num(1))[:count]
				if count == 0 {
					given = nil
				}
				var said [2]string
				for i := range said {
					h := esheap.New(100)
					this := list(t, h, num(1), undefined(), str("a"))
					if r.of == methodsOfTexts {
						this = str("undefined a b")
					}
					v, e := Call(h, r.id, this, given)
					said[i] = told(h, v, e) + seen(h)
					given = append(given, undefined(), undefined())
				}
				if said[0] != said[1] {
					t.Errorf("%s of %d: %s, %s", r.name, count, said[0], said[1])
				}
			}
		}
	}
}

// P10.1: a method's this must be of its kind, ahead of all that its arguments may bring.
func TestWrongThis(t *testing.T) {
	h := esheap.New(100)
	much := list(t, h, long(api.MaxUnits+1))
	a, w := list(t, h, num(1)), str("ab")
	others := args(undefined(), null(), yes(), num(1), record(t, h, "length", num(1)), funcOf(t, h), builtin(50))
	for _, r := range table {
		all := others
		switch r.of {
		case methodsOfArrays:
			all = append(args(w), all...)
		case methodsOfTexts:
			all = append(args(a), all...)
		default:
			continue
		}
		for _, this := range all {
			changesNothing(t, h, "ErrThrow", r.id, this)
			changesNothing(t, h, "ErrThrow", r.id, this, a, w)
			changesNothing(t, h, "ErrThrow", r.id, this, much, much)
		}
	}
}

// P10.1: of the others this isn't asked for.
func TestAnyThis(t *testing.T) {
	for _, r := range table {
		if r.of == methodsOfArrays || r.of == methodsOfTexts {
			continue
		}
		want := ""
		for i := range 5 {
			h := esheap.New(100)
			o := record(t, h)
			this := args(undefined(), null(), str("abc"), o, list(t, h))[i]
			v, e := Call(h, r.id, this, args(o, num(1)))
			if got := told(h, v, e); i > 0 && got != want {
				t.Error(r.name, got, want)
			} else {
				want = got
			}
		}
	}
}

// P10.1: a text that is needed and too long is ErrHeap, of each argument that is read, and nothing is changed.
func TestTooLongArguments(t *testing.T) {
	h := esheap.New(100)
	much := list(t, h, long(api.MaxUnits+1))
	a, w := list(t, h, num(1)), str("ab")
	for _, c := range []struct {
		id   int
		this api.Value
		args []api.Value
	}{
		{toNumber, w, args(much)}, {toText, w, args(much)}, {isNaN, w, args(much)},
		{parseInt, w, args(much)}, {parseInt, w, args(w, much)}, {parseInt, w, args(much, num(7))},
		{abs, w, args(much)}, {floor, w, args(much)}, {ceil, w, args(much)},
		{greatest, w, args(num(1), num(math.NaN()), much)}, {least, w, args(much, num(1))},
		{parse, w, args(much)},
		{arraySlice, a, args(much)}, {arraySlice, a, args(num(5), much)},
		{join, a, args(much)}, {join, list(t, h), args(much)}, {join, list(t, h, num(1), much), nil}, {join, list(t, h, much, num(1)), nil},
		{charAt, w, args(much)}, {charCodeAt, w, args(much)},
		{textIndexOf, w, args(much)}, {textIndexOf, w, args(w, much)},
		{substring, w, args(much)}, {substring, w, args(num(0), much)},
		{textSlice, w, args(much)}, {textSlice, w, args(num(0), much)},
		{split, w, args(much)},
	} {
		changesNothing(t, h, "ErrHeap", c.id, c.this, c.args...)
	}
	calls(t, h, "true", toBool, w, much)
	calls(t, h, "true", isAnArray, w, much)
	calls(t, h, "-1", arrayIndexOf, a, much)
	calls(t, h, "['0']", keys, w, much)
	calls(t, h, "2", push, a, much)
	calls(t, h, "1", arrayIndexOf, a, much)
	calls(t, h, "[[8193 units], 1]", reverse, a)
}

// P10.1: a Text that is longer is told as it is, where nothing is put together.
func TestLongTexts(t *testing.T) {
	h := esheap.New(100)
	for _, n := range []int{api.MaxUnits, api.MaxUnits + 1, 3 * api.MaxUnits} {
		w := long(n)
		size := strconv.Itoa(n) + " units"
		last := float64(n - 1)
		calls(t, h, size, toText, undefined(), w)
		calls(t, h, size, toLowerCase, w)
		calls(t, h, size, toUpperCase, w)
		calls(t, h, size, substring, w)
		calls(t, h, size, textSlice, w)
		calls(t, h, strconv.Itoa(n-1)+" units", textSlice, w, num(1))
		calls(t, h, "["+size+"]", split, w)
		calls(t, h, "["+size+"]", split, w, str("y"))
		calls(t, h, "[]", split, str(""), str(""))
		calls(t, h, "['', '']", split, w, w)
		calls(t, h, "'x'", charAt, w, num(last))
		calls(t, h, "''", charAt, w, num(last+1))
		calls(t, h, "120", charCodeAt, w, num(last))
		calls(t, h, "0", textIndexOf, w, w)
		calls(t, h, strconv.Itoa(n), textIndexOf, w, str(""), num(last+5))
		calls(t, h, "5", toNumber, undefined(), str(strings.Repeat(" ", n)+"5"))
		calls(t, h, "5", parseInt, undefined(), str(strings.Repeat(" ", n)+"5x"))
		calls(t, h, size, parse, undefined(), str(`"`+strings.Repeat("x", n)+`"`))
	}
}

// P10.1: what is handed in is neither changed nor kept.
func TestArgumentsStay(t *testing.T) {
	h := esheap.New(api.MaxCells)
	a := list(t, h, num(1), num(2))
	for _, r := range table {
		this := a
		if r.of == methodsOfTexts {
			this = str("a,b")
		}
		given := make([]api.Value, 2, 10)
		given[0], given[1] = a, num(1)
		v, e := Call(h, r.id, this, given)
		if given[0] != a || given[1] != num(1) {
			t.Error(r.name, given)
		}
		for _, spare := range given[2:10] {
			if spare != undefined() {
				t.Error(r.name, spare)
			}
		}
		before := told(h, v, e) + seen(h)
		given[0], given[1] = str("other"), str("other")
		if after := told(h, v, e) + seen(h); after != before {
			t.Errorf("%s: %s, %s", r.name, before, after)
		}
	}
}

// P10.1: nothing is kept from call to call: the same call on a heap like the first answers the same.
func TestSameAgain(t *testing.T) {
	for _, r := range table {
		var said [3]string
		for i := range said {
			h := esheap.New(100)
			a := list(t, h, num(1), record(t, h, "b", str("x"), "a", null()))
			this := a
			if r.of == methodsOfTexts {
				this = str("a,b")
			}
			v, e := Call(h, r.id, this, args(a, num(1)))
			said[i] = told(h, v, e) + seen(h)
		}
		if said[0] != said[1] || said[1] != said[2] {
			t.Error(r.name, said)
		}
	}
}

func narrow(w string) string {
	s, _ := utf.Narrow(w)
	return s
}
