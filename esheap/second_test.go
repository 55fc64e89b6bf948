package esheap

import (
	"math"
	"math/rand"
	"slices"
	"strconv"
	"strings"
	"testing"

	"pennant/api"
)

// calls are the calls of a heap, which a second one answers too.
type calls interface {
	Plain(proto int) (int, api.Errno)
	Array(items []api.Value) (int, api.Errno)
	Function(a, b, scope int) (int, api.Errno)
	Kind(i int) int
	Proto(i int) int
	Code(i int) (int, int, int, bool)
	Items(i int) ([]api.Value, bool)
	Own(i int, key string) (api.Value, bool)
	Get(i int, key string) (api.Value, bool)
	Put(i int, key string, v api.Value) api.Errno
	Set(i int, key string, v api.Value) (bool, api.Errno)
	Drop(i int, key string) bool
	Keys(i int) []string
	Size() (int, int)
}

// slow is a heap that goes by the chapter's words: properties stand in a list, an array's items are those of its indexes, cells are counted anew each time, and a call that takes too many is done and undone.
type slow struct {
	given  int
	things []thing
}

type thing struct {
	kind, proto, a, b, scope int
	items                    []api.Value
	own                      []pair
}

type pair struct {
	key   string
	value api.Value
}

// beyond is more items than the cells of any of these heaps do for.
const beyond = 100

func newSlow(cells int) *slow {
	return &slow{given: cells}
}

func (s *slow) left() int {
	left := s.given
	for _, x := range s.things {
		left -= 1 + len(x.items) + len(x.own)
	}
	return left
}

func (s *slow) has(i int) bool {
	for n := range s.things {
		if n == i {
			return true
		}
	}
	return false
}

// isRight holds a value against the one that its kind says it is.
func (s *slow) isRight(v api.Value) bool {
	switch v.Kind {
	case 0, 1:
		return isOne(v, api.Value{Kind: v.Kind})
	case 2:
		return isOne(v, boolean(0)) || isOne(v, boolean(1))
	case 3:
		return isOne(v, number(v.Num))
	case 4:
		return isOne(v, api.Value{Kind: 4, Text: v.Text}) && len(v.Text)%2 == 0
	case 5:
		return isOne(v, objectOf(v.Ref)) && s.has(v.Ref)
	case 6:
		return isOne(v, builtin(v.Ref)) && v.Ref >= 0
	}
	return false
}

func (s *slow) added(x thing) (int, api.Errno) {
	if s.left() < 1+len(x.items) {
		return 0, 112
	}
	s.things = append(s.things, x)
	return len(s.things) - 1, 0
}

func (s *slow) Plain(proto int) (int, api.Errno) {
	if proto != -1 && !s.has(proto) {
		return 0, 3
	}
	return s.added(thing{kind: 1, proto: proto})
}

func (s *slow) Array(items []api.Value) (int, api.Errno) {
	for _, v := range items {
		if !s.isRight(v) {
			return 0, 1
		}
	}
	return s.added(thing{kind: 2, proto: -1, items: slices.Clone(items)})
}

func (s *slow) Function(a, b, scope int) (int, api.Errno) {
	if scope != -1 && !s.has(scope) {
		return 0, 3
	}
	return s.added(thing{kind: 3, proto: -1, a: a, b: b, scope: scope})
}

func (s *slow) Kind(i int) int {
	if !s.has(i) {
		return 0
	}
	return s.things[i].kind
}

func (s *slow) Proto(i int) int {
	if !s.has(i) {
		return -1
	}
	return s.things[i].proto
}

func (s *slow) Code(i int) (int, int, int, bool) {
	if s.Kind(i) != 3 {
		return 0, 0, 0, false
	}
	x := s.things[i]
	return x.a, x.b, x.scope, true
}

func (s *slow) Items(i int) ([]api.Value, bool) {
	if s.Kind(i) != 2 {
		return nil, false
	}
	return slices.Clone(s.things[i].items), true
}

// slowIndex is the number of a key that is written as that number is.
func slowIndex(key string) (int, bool) {
	plain := ""
	for n, c := range []byte(key) {
		if n%2 == 1 {
			plain += string([]byte{c})
		} else if c != 0 {
			return 0, false
		}
	}
	n, err := strconv.ParseInt(plain, 10, 32)
	if err != nil || n < 0 || wide(strconv.FormatInt(n, 10)) != key {
		return 0, false
	}
	return int(n), true
}

// all are the pairs that Own tells, in the order in which Keys tells them, but length.
func (s *slow) all(i int) (list []pair) {
	if !s.has(i) {
		return nil
	}
	for n, v := range s.things[i].items {
		list = append(list, pair{wide(strconv.Itoa(n)), v})
	}
	return append(list, s.things[i].own...)
}

func (s *slow) Own(i int, key string) (api.Value, bool) {
	if s.Kind(i) == 2 && key == wide("length") {
		return number(float64(len(s.things[i].items))), true
	}
	for _, p := range s.all(i) {
		if p.key == key {
			return p.value, true
		}
	}
	return api.Value{}, false
}

func (s *slow) holder(i int, key string) int {
	if _, ok := s.Own(i, key); ok || !s.has(i) {
		return i
	}
	return s.holder(s.things[i].proto, key)
}

func (s *slow) Get(i int, key string) (api.Value, bool) {
	return s.Own(s.holder(i, key), key)
}

func (s *slow) Put(i int, key string, v api.Value) api.Errno {
	if !s.has(i) {
		return 3
	}
	if !s.isRight(v) {
		return 1
	}
	x := s.things[i]
	x.items = slices.Clone(x.items)
	x.own = slices.Clone(x.own)
	n, isIndex := slowIndex(key)
	switch {
	case x.kind == 2 && key == wide("length"):
		if v.Kind != 3 || v.Num < 0 || v.Num >= 1<<31 || math.Floor(v.Num) != v.Num {
			return 1
		}
		if v.Num > beyond {
			return 112
		}
		x.items = append(x.items, make([]api.Value, beyond)...)[:int(v.Num)]
		for k := len(s.things[i].items); k < len(x.items); k++ {
			x.items[k] = api.Value{}
		}
	case x.kind == 2 && isIndex:
		for len(x.items) <= n && len(x.items) < beyond {
			x.items = append(x.items, api.Value{})
		}
		if len(x.items) <= n {
			return 112
		}
		x.items[n] = v
	default:
		at := slices.IndexFunc(x.own, func(p pair) bool { return p.key == key })
		if at < 0 {
			at = len(x.own)
			x.own = append(x.own, pair{key: key})
		}
		x.own[at].value = v
	}
	before := s.things[i]
	s.things[i] = x
	if s.left() < 0 {
		s.things[i] = before
		return 112
	}
	return 0
}

func (s *slow) Set(i int, key string, v api.Value) (bool, api.Errno) {
	if !s.has(i) {
		return false, 3
	}
	at := s.holder(i, key)
	if !s.has(at) {
		return false, 0
	}
	return true, s.Put(at, key, v)
}

func (s *slow) Drop(i int, key string) bool {
	if !s.has(i) {
		return false
	}
	x := &s.things[i]
	if n, ok := slowIndex(key); ok && x.kind == 2 {
		if n >= len(x.items) {
			return false
		}
		x.items[n] = api.Value{}
		return true
	}
	at := slices.IndexFunc(x.own, func(p pair) bool { return p.key == key })
	if at < 0 {
		return false
	}
	x.own = append(slices.Clone(x.own[:at]), x.own[at+1:]...)
	return true
}

func (s *slow) Keys(i int) (list []string) {
	for _, p := range s.all(i) {
		list = append(list, p.key)
	}
	return list
}

func (s *slow) Size() (int, int) { return len(s.things), s.left() }

// A step is a call: what it answers is told in words.
type step struct {
	name   string
	i      int
	a, b   int
	key    string
	v      api.Value
	values []api.Value
}

func (s step) String() string {
	return s.name + " " + strconv.Itoa(s.i) + " " + short(s.key) + " " + told([]api.Value{s.v}) + " " + told(s.values)
}

func words(list ...any) string {
	s := ""
	for _, x := range list {
		switch x := x.(type) {
		case int:
			s += " " + strconv.Itoa(x)
		case bool:
			s += " " + strconv.FormatBool(x)
		case api.Errno:
			s += " e" + strconv.Itoa(int(x))
		case api.Value:
			s += " " + told([]api.Value{x})
		}
	}
	return s
}

func (s step) on(h calls) string {
	switch s.name {
	case "plain":
		i, e := h.Plain(s.i)
		return words(i, e)
	case "array":
		i, e := h.Array(s.values)
		return words(i, e)
	case "function":
		i, e := h.Function(s.a, s.b, s.i)
		return words(i, e)
	case "own":
		v, ok := h.Own(s.i, s.key)
		return words(v, ok)
	case "get":
		v, ok := h.Get(s.i, s.key)
		return words(v, ok)
	case "put":
		return words(h.Put(s.i, s.key, s.v))
	case "set":
		ok, e := h.Set(s.i, s.key, s.v)
		return words(ok, e)
	case "drop":
		return words(h.Drop(s.i, s.key))
	}
	panic(s.name)
}

// agree does steps on both heaps, and looks whether all that is seen of them agrees.
func agree(t *testing.T, cells int, steps []step, next func(objects int) step) bool {
	t.Helper()
	h, s := New(cells), newSlow(cells)
	for n := 0; n < len(steps) || next != nil && n < 120; n++ {
		if next != nil {
			objects, _ := s.Size()
			steps = append(steps, next(objects))
		}
		a, b := steps[n].on(h), steps[n].on(s)
		if a == b && (next == nil && n < len(steps)-1 || seen(h) == seen(s)) {
			continue
		}
		var list []string
		for _, x := range steps[max(0, n-6) : n+1] {
			list = append(list, x.String())
		}
		t.Error("cells", cells, "steps", n, strings.Join(list, "; "), "answers", a, "not", b)
		return false
	}
	return true
}

// P8.1 to P8.4: all short rows of some calls, over few cells.
func TestAllShortRows(t *testing.T) {
	t.Parallel()
	a, length := wide("a"), wide("length")
	some := []step{
		{name: "plain", i: -1}, {name: "plain", i: 0}, {name: "array", values: numbers(1)}, {name: "function", i: 0, a: 1, b: 2},
		{name: "put", i: 0, key: a, v: number(2)}, {name: "put", i: 1, key: a, v: objectOf(1)}, {name: "put", i: 0, key: wide("1"), v: text("x")},
		{name: "put", i: 0, key: length, v: number(0)}, {name: "put", i: 0, key: length, v: number(2)},
		{name: "set", i: 1, key: a, v: null()}, {name: "set", i: 0, key: length, v: number(1)}, {name: "put", i: 0, key: wide("b"), v: null()},
		{name: "drop", i: 0, key: a}, {name: "drop", i: 0, key: wide("1")}, {name: "drop", i: 0, key: length}, {name: "get", i: 1, key: a},
	}
	rows := [][]step{nil}
	for n := 0; len(rows[n]) < 4; n++ {
		for _, x := range some {
			rows = append(rows, append(slices.Clone(rows[n]), x))
		}
	}
	for _, row := range rows {
		for _, cells := range []int{2, 3, 4, 8} {
			if !agree(t, cells, row, nil) {
				return
			}
		}
	}
}

func thrownValue(r *rand.Rand, objects int) api.Value {
	nums := []float64{0, 1, 2, 3, 5, -1, 0.5, minusNought(), math.NaN(), math.Inf(1), 1 << 31, 1<<31 - 1, 12, 30}
	v := api.Value{Kind: r.Intn(7)}
	switch v.Kind {
	case api.Bool:
		v.Num = float64(r.Intn(2))
	case api.Number:
		v.Num = nums[r.Intn(len(nums))]
	case api.Text:
		v.Text = []string{"", "ab", "\xd8\x00", wide("x")}[r.Intn(4)]
	case api.Object:
		v.Ref = r.Intn(objects + 1)
	case api.Builtin:
		v.Ref = r.Intn(100)
	}
	switch r.Intn(40) {
	case 0:
		v.Kind = r.Intn(10) - 1
	case 1:
		v.Num = nums[r.Intn(len(nums))]
	case 2:
		v.Text = []string{"", "a", "ab"}[r.Intn(3)]
	case 3:
		v.Ref = r.Intn(objects+4) - 2
	}
	return v
}

func thrownStep(r *rand.Rand, objects int, keys []string) step {
	s := step{i: r.Intn(objects+3) - 1, a: r.Intn(9) - 4, b: r.Intn(9) - 4, key: keys[r.Intn(len(keys))], v: thrownValue(r, objects)}
	if s.key == wide("length") && r.Intn(4) > 0 {
		s.v = number(float64(r.Intn(12)))
	}
	names := []string{"plain", "array", "function", "own", "get", "put", "put", "put", "put", "put", "set", "set", "set", "drop", "drop"}
	s.name = names[r.Intn(len(names))]
	if s.name == "array" {
		for range r.Intn(4) {
			s.values = append(s.values, thrownValue(r, objects))
		}
	}
	return s
}

// P8.1 to P8.4: many calls by dice, held against the second heap behind each one.
func TestManyCalls(t *testing.T) {
	t.Parallel()
	keys := append(wides("a b c 0 1 2 3 5 9 01 length length length 2147483647 2147483648 -1"), "", "0", "length", "\x00", "\x000\x00")
	r := rand.New(rand.NewSource(8))
	for range 2000 {
		cells := []int{0, 3, 6, 10, 15, 25, 40}[r.Intn(7)]
		some := keys
		if r.Intn(2) == 0 {
			some = keys[:3+r.Intn(8)]
		}
		next := func(objects int) step { return thrownStep(r, objects, some) }
		if !agree(t, cells, nil, next) {
			return
		}
	}
}
