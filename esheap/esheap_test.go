package esheap

import (
	"math"
	"slices"
	"strconv"
	"strings"
	"testing"

	"pennant/api"
	"pennant/utf"
)

// wide is a text of plain characters as a wide one.
func wide(s string) string {
	w, _, e := utf.Wide(s)
	if e != api.OK {
		panic("no UTF-8: " + s)
	}
	return w
}

// wides are texts of plain characters, parted by blanks, as wide ones.
func wides(s string) []string {
	list := strings.Fields(s)
	for i := range list {
		list[i] = wide(list[i])
	}
	return list
}

func undefined() api.Value        { return api.Value{} }
func null() api.Value             { return api.Value{Kind: api.Null} }
func boolean(n float64) api.Value { return api.Value{Kind: api.Bool, Num: n} }
func number(n float64) api.Value  { return api.Value{Kind: api.Number, Num: n} }
func text(s string) api.Value     { return api.Value{Kind: api.Text, Text: wide(s)} }
func objectOf(i int) api.Value    { return api.Value{Kind: api.Object, Ref: i} }
func builtin(i int) api.Value     { return api.Value{Kind: api.Builtin, Ref: i} }
func minusNought() float64        { return math.Copysign(0, -1) }
func numbers(n ...float64) (list []api.Value) {
	for _, x := range n {
		list = append(list, number(x))
	}
	return list
}

// isOne says whether two values are the same, bit by bit.
func isOne(a, b api.Value) bool {
	return a.Kind == b.Kind && math.Float64bits(a.Num) == math.Float64bits(b.Num) && a.Text == b.Text && a.Ref == b.Ref
}

func areOne(a, b []api.Value) bool { return slices.EqualFunc(a, b, isOne) }

// short is a text that can be read in a failure's message.
func short(s string) string {
	if len(s) > 60 {
		s = s[:60] + ".."
	}
	return strconv.Quote(s)
}

func plainOf(t *testing.T, h *Heap, proto int) int {
	t.Helper()
	i, e := h.Plain(proto)
	if e != api.OK {
		t.Fatal("Plain:", e)
	}
	return i
}

func arrayOf(t *testing.T, h *Heap, items ...api.Value) int {
	t.Helper()
	i, e := h.Array(items)
	if e != api.OK {
		t.Fatal("Array:", e)
	}
	return i
}

func functionOf(t *testing.T, h *Heap, a, b, scope int) int {
	t.Helper()
	i, e := h.Function(a, b, scope)
	if e != api.OK {
		t.Fatal("Function:", e)
	}
	return i
}

func puts(t *testing.T, h *Heap, i int, key string, v api.Value) {
	t.Helper()
	if e := h.Put(i, key, v); e != api.OK {
		t.Error("Put:", i, short(key), e)
	}
}

// refuses puts a value that is refused, and looks whether that has changed something.
func refuses(t *testing.T, h *Heap, i int, key string, v api.Value, want api.Errno) {
	t.Helper()
	before := seen(h)
	if e := h.Put(i, key, v); e != want {
		t.Error("Put:", i, short(key), v.Kind, v.Num, e, "not", want)
	}
	if seen(h) != before {
		t.Error("Put has changed the heap:", i, short(key))
	}
}

func owns(t *testing.T, h *Heap, i int, key string, want api.Value) {
	t.Helper()
	if v, ok := h.Own(i, key); !ok || !isOne(v, want) {
		t.Error("Own:", i, short(key), v.Kind, v.Num, short(v.Text), v.Ref, ok)
	}
}

func lacks(t *testing.T, h *Heap, i int, key string) {
	t.Helper()
	if v, ok := h.Own(i, key); ok || !isOne(v, undefined()) {
		t.Error("Own:", i, short(key), v.Kind, v.Num, short(v.Text), v.Ref, ok)
	}
}

func gets(t *testing.T, h *Heap, i int, key string, want api.Value) {
	t.Helper()
	if v, ok := h.Get(i, key); !ok || !isOne(v, want) {
		t.Error("Get:", i, short(key), v.Kind, v.Num, short(v.Text), v.Ref, ok)
	}
}

func getsNone(t *testing.T, h *Heap, i int, key string) {
	t.Helper()
	if v, ok := h.Get(i, key); ok || !isOne(v, undefined()) {
		t.Error("Get:", i, short(key), v.Kind, v.Num, short(v.Text), v.Ref, ok)
	}
}

func sets(t *testing.T, h *Heap, i int, key string, v api.Value, found bool, want api.Errno) {
	t.Helper()
	before := seen(h)
	ok, e := h.Set(i, key, v)
	if ok != found || e != want {
		t.Error("Set:", i, short(key), ok, e, "not", found, want)
	}
	if (!ok || e != api.OK) && seen(h) != before {
		t.Error("Set has changed the heap:", i, short(key))
	}
}

func drops(t *testing.T, h *Heap, i int, key string, want bool) {
	t.Helper()
	before := seen(h)
	ok := h.Drop(i, key)
	if ok != want {
		t.Error("Drop:", i, short(key), ok)
	}
	if !ok && seen(h) != before {
		t.Error("Drop has changed the heap:", i, short(key))
	}
}

func hasKeys(t *testing.T, h *Heap, i int, want ...string) {
	t.Helper()
	if keys := h.Keys(i); !slices.Equal(keys, want) {
		t.Errorf("Keys: %d %q, not %q", i, keys, want)
	}
}

func hasItems(t *testing.T, h *Heap, i int, want ...api.Value) {
	t.Helper()
	if items, ok := h.Items(i); !ok || !areOne(items, want) {
		t.Error("Items:", i, items, ok, "not", want)
	}
	owns(t, h, i, wide("length"), number(float64(len(want))))
}

func hasSize(t *testing.T, h *Heap, objects, left int) {
	t.Helper()
	if n, l := h.Size(); n != objects || l != left {
		t.Error("Size:", n, l, "not", objects, left)
	}
}

// seen is all that can be told of a heap.
func seen(h calls) string {
	objects, left := h.Size()
	list := []string{strconv.Itoa(objects), strconv.Itoa(left)}
	for i := range objects {
		a, b, scope, is := h.Code(i)
		list = append(list, "|", strconv.Itoa(h.Kind(i)), strconv.Itoa(h.Proto(i)), strconv.Itoa(a), strconv.Itoa(b), strconv.Itoa(scope), strconv.FormatBool(is))
		items, is := h.Items(i)
		list = append(list, strconv.FormatBool(is), told(items))
		for _, key := range append(h.Keys(i), wide("length")) {
			v, ok := h.Own(i, key)
			list = append(list, strconv.Quote(key), strconv.FormatBool(ok), told([]api.Value{v}))
		}
	}
	return strings.Join(list, " ")
}

func told(list []api.Value) string {
	s := ""
	for _, v := range list {
		s += "(" + strconv.Itoa(v.Kind) + " " + strconv.FormatUint(math.Float64bits(v.Num), 16) + " " + strconv.Quote(v.Text) + " " + strconv.Itoa(v.Ref) + ")"
	}
	return s
}

// P8.1: the chapter's examples.
func TestExamples(t *testing.T) {
	h := New(10)
	a, z := wide("a"), number(7)
	if i := plainOf(t, h, -1); i != 0 {
		t.Error(i)
	}
	if i := plainOf(t, h, 0); i != 1 {
		t.Error(i)
	}
	puts(t, h, 0, a, number(5))
	gets(t, h, 1, a, number(5))
	lacks(t, h, 1, a)
	sets(t, h, 1, a, number(6), true, api.OK)
	owns(t, h, 0, a, number(6))
	hasSize(t, h, 2, 7)

	x, y := text("x"), text("y")
	if i := arrayOf(t, h, x); i != 2 {
		t.Error(i)
	}
	puts(t, h, 2, wide("2"), y)
	hasItems(t, h, 2, x, undefined(), y)
	puts(t, h, 2, wide("length"), number(1))
	hasItems(t, h, 2, x)
	puts(t, h, 2, wide("01"), z)
	owns(t, h, 2, wide("01"), z)
	hasKeys(t, h, 2, wides("0 01")...)

	refuses(t, h, 9, a, z, api.ErrNone)
	refuses(t, h, 0, a, objectOf(9), api.ErrArg)
	if i, e := h.Plain(7); i != 0 || e != api.ErrNone {
		t.Error(i, e)
	}
	h = New(1)
	if i := plainOf(t, h, -1); i != 0 {
		t.Error(i)
	}
	if i, e := h.Plain(-1); i != 0 || e != api.ErrHeap {
		t.Error(i, e)
	}
}

// strange are numbers that no object has, of a heap that has so many.
func strange(objects int) []int {
	return []int{-1, -2, objects, objects + 1, math.MinInt, math.MaxInt, math.MinInt32, math.MaxInt32, math.MaxUint32, math.MaxUint32 + 1}
}

// P8.1: what objects are made of is what they tell.
func TestObjectsTellWhatTheyAre(t *testing.T) {
	h := New(100)
	p := plainOf(t, h, -1)
	q := plainOf(t, h, p)
	a := arrayOf(t, h)
	b := arrayOf(t, h, number(1), objectOf(q), builtin(9))
	f := functionOf(t, h, 3, -4, -1)
	g := functionOf(t, h, math.MinInt, math.MaxInt, b)
	r := plainOf(t, h, a)
	s := plainOf(t, h, g)
	for i, want := range []struct{ kind, proto int }{{1, -1}, {1, p}, {2, -1}, {2, -1}, {3, -1}, {3, -1}, {1, a}, {1, g}} {
		if h.Kind(i) != want.kind || h.Proto(i) != want.proto {
			t.Error(i, h.Kind(i), h.Proto(i))
		}
		_, is := h.Items(i)
		if is != (want.kind == 2) {
			t.Error(i, is)
		}
	}
	for _, c := range []struct {
		i, a, b, scope int
		is             bool
	}{{p, 0, 0, 0, false}, {q, 0, 0, 0, false}, {a, 0, 0, 0, false}, {b, 0, 0, 0, false}, {f, 3, -4, -1, true}, {g, math.MinInt, math.MaxInt, b, true}, {r, 0, 0, 0, false}, {s, 0, 0, 0, false}} {
		if m, n, scope, is := h.Code(c.i); m != c.a || n != c.b || scope != c.scope || is != c.is {
			t.Error(c.i, m, n, scope, is)
		}
	}
	hasItems(t, h, a)
	hasItems(t, h, b, number(1), objectOf(q), builtin(9))
	hasSize(t, h, 8, 100-8-3)
}

// P8.1: of a number that no object has there is nothing.
func TestNoSuchObject(t *testing.T) {
	for objects := range 4 {
		h := New(20)
		for range objects {
			plainOf(t, h, -1)
		}
		for _, i := range strange(objects) {
			if k := h.Kind(i); k != 0 {
				t.Error(i, k)
			}
			if p := h.Proto(i); p != -1 {
				t.Error(i, p)
			}
			if a, b, scope, is := h.Code(i); a != 0 || b != 0 || scope != 0 || is {
				t.Error(i, a, b, scope, is)
			}
			if items, is := h.Items(i); len(items) != 0 || is {
				t.Error(i, items, is)
			}
			if keys := h.Keys(i); len(keys) != 0 {
				t.Error(i, keys)
			}
			for _, key := range []string{"", "a", wide("a"), wide("0"), wide("length")} {
				lacks(t, h, i, key)
				getsNone(t, h, i, key)
				drops(t, h, i, key, false)
				refuses(t, h, i, key, number(1), api.ErrNone)
				// That there is no such object is told ahead of all else.
				refuses(t, h, i, key, api.Value{Kind: 9}, api.ErrNone)
				sets(t, h, i, key, number(1), false, api.ErrNone)
				sets(t, h, i, key, api.Value{Kind: 9}, false, api.ErrNone)
			}
			hasSize(t, h, objects, 20-objects)
		}
	}
}

// P8.1: a prototype or a scope that isn't there; that is told ahead of a lack of cells.
func TestNoSuchPrototypeOrScope(t *testing.T) {
	for objects := range 4 {
		for more := range 3 {
			h := New(objects + more)
			for range objects {
				plainOf(t, h, -1)
			}
			for _, i := range strange(objects) {
				if i == -1 {
					continue
				}
				if n, e := h.Plain(i); n != 0 || e != api.ErrNone {
					t.Error(i, n, e)
				}
				if n, e := h.Function(1, 2, i); n != 0 || e != api.ErrNone {
					t.Error(i, n, e)
				}
				hasSize(t, h, objects, more)
			}
		}
	}
}

// P8.1: each object that is there may be a prototype, or a scope.
func TestAnyObjectMayBeBehind(t *testing.T) {
	h := New(100)
	for _, i := range []int{plainOf(t, h, -1), arrayOf(t, h, number(1)), functionOf(t, h, 1, 2, -1)} {
		p := plainOf(t, h, i)
		f := functionOf(t, h, 5, 6, i)
		if h.Proto(p) != i {
			t.Error(h.Proto(p))
		}
		if _, _, scope, _ := h.Code(f); scope != i {
			t.Error(scope)
		}
	}
}
