package esconv

import (
	"math"
	"math/rand"
	"slices"
	"testing"

	"pennant/api"
	"pennant/esheap"
	"pennant/esnum"
	"pennant/utf"
)

// row16 is a text as units in a row.
type row16 []uint16

func asUnits(w string) (u row16) {
	for i := range utf.Length(w) {
		x, _ := utf.At(w, i)
		u = append(u, uint16(x))
	}
	return u
}

func asWide(u row16) string { return units(u...).Text }

// second goes by the chapter's words: it goes down every way through arrays, and knows those around by a list.
type second struct {
	h *esheap.Heap
	// spent is how many units it wrote on its way, also those of texts that came to nothing.
	spent int
}

// text is a value's, and whether it isn't too long.
func (s *second) text(v api.Value, around []int) (row16, bool) {
	switch v.Kind {
	case api.Undefined:
		return asUnits(wideOf("undefined")), true
	case api.Null:
		return asUnits(wideOf("null")), true
	case api.Bool:
		return asUnits(wideOf([]string{"false", "true"}[int(v.Num)])), true
	case api.Number:
		return asUnits(wideOf(esnum.Text(v.Num))), true
	case api.Text:
		return asUnits(v.Text), true
	case api.Builtin:
		return asUnits(wideOf("function")), true
	}
	switch s.h.Kind(v.Ref) {
	case 1:
		return asUnits(wideOf("[object Object]")), true
	case 3:
		return asUnits(wideOf("function")), true
	}
	items, _ := s.h.Items(v.Ref)
	return s.joined(items, append(slices.Clone(around), v.Ref))
}

func (s *second) joined(items []api.Value, around []int) (all row16, ok bool) {
	for i, v := range items {
		if i > 0 {
			all = append(all, ',')
			s.spent++
		}
		if v.Kind == api.Undefined || v.Kind == api.Null || v.Kind == api.Object && slices.Contains(around, v.Ref) {
			continue
		}
		part, ok := s.text(v, around)
		if !ok {
			return nil, false
		}
		all = append(all, part...)
		if len(all) > api.MaxUnits || s.spent > api.MaxUnits {
			return nil, false
		}
	}
	return all, len(all) <= api.MaxUnits
}

func secondText(h *esheap.Heap, v api.Value) (row16, bool) {
	s := second{h: h}
	return s.text(v, nil)
}

// primitive takes Objects and Builtins by their texts.
func primitive(h *esheap.Heap, v api.Value) (api.Value, bool) {
	if v.Kind < api.Object {
		return v, true
	}
	u, ok := secondText(h, v)
	return units(u...), ok
}

func secondNumber(v api.Value) float64 {
	return []func() float64{
		func() float64 { return math.NaN() },
		func() float64 { return 0 },
		func() float64 { return v.Num },
		func() float64 { return v.Num },
		func() float64 { return esnum.Number(v.Text) },
	}[v.Kind]()
}

// equal goes by the steps of the script language's own rules: one value is turned at each step, till both are of one kind.
func equal(h *esheap.Heap, a, b api.Value) (is, ok bool) {
	switch {
	case a.Kind == b.Kind && a.Kind == api.Number:
		return a.Num == b.Num, true
	case a.Kind == b.Kind:
		return isOne(a, b), true
	case a.Kind > b.Kind:
		return equal(h, b, a)
	case a.Kind <= api.Null:
		return b.Kind <= api.Null, true
	case a.Kind == api.Bool:
		return equal(h, num(a.Num), b)
	case a.Kind == api.Number && b.Kind == api.Text:
		return a.Num == secondNumber(b), true
	case a.Kind == api.Object:
		return false, true
	}
	p, ok := primitive(h, b)
	if !ok {
		return false, false
	}
	return equal(h, a, p)
}

func less(a, b api.Value) int {
	if a.Kind == api.Text && b.Kind == api.Text {
		if slices.Compare(asUnits(a.Text), asUnits(b.Text)) < 0 {
			return 1
		}
		return 0
	}
	x, y := secondNumber(a), secondNumber(b)
	switch {
	case x < y:
		return 1
	case x >= y:
		return 0
	}
	return -1
}

func sum(h *esheap.Heap, a, b api.Value) (api.Value, bool) {
	if a.Kind != api.Text && b.Kind != api.Text {
		return num(secondNumber(a) + secondNumber(b)), true
	}
	u, _ := secondText(h, a)
	w, _ := secondText(h, b)
	u = append(u, w...)
	return units(u...), len(u) <= api.MaxUnits
}

// holds holds all calls against the second ones, of one value and of two.
func holds(t *testing.T, h *esheap.Heap, a, b api.Value) {
	t.Helper()
	u, ok := secondText(h, a)
	if w, e := Text(h, a); ok && (w != asWide(u) || e != api.OK) || !ok && (w != "" || e != api.ErrHeap) {
		t.Errorf("%s: %s, %v", tell(a), short(w), e)
	}
	p, okA := primitive(h, a)
	q, okB := primitive(h, b)
	x, e := Number(h, a)
	if okA && (!esnum.Same(x, secondNumber(p)) || e != api.OK) || !okA && (x != 0 || e != api.ErrHeap) {
		t.Errorf("%s: %v, %v", tell(a), x, e)
	}
	same, e := Loose(h, a, b)
	is, ok := equal(h, a, b)
	if same != is || ok != (e == api.OK) || !ok && e != api.ErrHeap {
		t.Errorf("Loose of %s, %s: %v, %v", tell(a), tell(b), same, e)
	}
	if strict := Strict(a, b); strict != (is && a.Kind == b.Kind) {
		t.Errorf("Strict of %s, %s: %v", tell(a), tell(b), strict)
	}
	n, e := Less(h, a, b)
	v, f := Add(h, a, b)
	if !okA || !okB {
		if n != 0 || e != api.ErrHeap || !isOne(v, api.Value{}) || f != api.ErrHeap {
			t.Errorf("%s, %s: %v, %v, %v, %v", tell(a), tell(b), n, e, tell(v), f)
		}
		return
	}
	if n != less(p, q) || e != api.OK {
		t.Errorf("Less of %s, %s: %v, %v", tell(a), tell(b), n, e)
	}
	want, ok := sum(h, p, q)
	if ok && (!isOne(v, want) || f != api.OK) || !ok && (!isOne(v, api.Value{}) || f != api.ErrHeap) {
		t.Errorf("Add of %s, %s: %s, %v", tell(a), tell(b), tell(v), f)
	}
}

// values is a heap with values of all sorts.
func values(t *testing.T) (*esheap.Heap, []api.Value) {
	t.Helper()
	h := esheap.New(300)
	all := []api.Value{undefined(), null(), boolean(0), boolean(1), builtin(0), builtin(1), builtin(1 << 31)}
	for _, x := range []float64{0, minusNought(), 1, -1, 5, 9, 10, 12, 0.5, 1e21, 5e-324, math.NaN(), math.Inf(1), math.Inf(-1)} {
		all = append(all, num(x))
	}
	for _, s := range []string{"", " ", "0", "-0", "1", " 1 ", "9", "10", "0x1F", "1e1", "a", "ab", "b", ",", "1,", "1,2", "NaN", "Infinity", "true", "null", "undefined", "function", "[object Object]"} {
		all = append(all, str(s))
	}
	all = append(all, units(0xd83d), units(0xff), units(0x100), units(0xffff), long(api.MaxUnits), long(api.MaxUnits+1))
	one := list(t, h)
	puts(t, h, one, one)
	loop := list(t, h, num(1))
	puts(t, h, loop, loop, null())
	object, function := plain(t, h), funcOf(t, h)
	child, _ := h.Plain(object.Ref)
	all = append(all, one, loop, object, objectOf(child), plain(t, h), function, funcOf(t, h))
	for _, items := range [][]api.Value{
		{}, {undefined()}, {null()}, {null(), undefined()}, {num(5)}, {num(5)}, {num(1), num(2)}, {str("a")}, {str("0x1F")}, {one}, {loop, loop},
		{object}, {function}, {builtin(0)}, {boolean(1)}, {num(minusNought())}, {long(api.MaxUnits)}, {long(api.MaxUnits), null()}, {long(api.MaxUnits + 1)},
	} {
		all = append(all, list(t, h, items...))
	}
	return h, all
}

// P9.1 to P9.3, of all pairs of many values.
func TestAllPairs(t *testing.T) {
	t.Parallel()
	h, all := values(t)
	for _, a := range all {
		for _, b := range all {
			holds(t, h, a, b)
			areHeld(t, h, a, b)
		}
	}
}

// areHeld says what P9.2 and P9.3 do of two values.
func areHeld(t *testing.T, h *esheap.Heap, a, b api.Value) {
	t.Helper()
	same, e := Loose(h, a, b)
	other, f := Loose(h, b, a)
	if same != other || e != f || Strict(a, b) != Strict(b, a) {
		t.Errorf("%s and %s are not the same both ways", tell(a), tell(b))
	}
	if Strict(a, b) && (!same || e != api.OK) {
		t.Errorf("%s and %s are the same by === alone", tell(a), tell(b))
	}
	n, _ := Less(h, a, b)
	m, e := Less(h, b, a)
	if n == 1 && (m != 0 || e != api.OK) || n == -1 && m != -1 {
		t.Errorf("%s and %s: %d, the other way %d, %v", tell(a), tell(b), n, m, e)
	}
}

// P9.1: all ways in which three arrays of at most two items stand in one another.
func TestAllSmallRings(t *testing.T) {
	t.Parallel()
	h := esheap.New(100)
	arrays := []api.Value{list(t, h), list(t, h), list(t, h)}
	may := append(slices.Clone(arrays), undefined(), str("a"))
	var rows [][]api.Value
	rows = append(rows, nil)
	for _, a := range may {
		rows = append(rows, []api.Value{a})
		for _, b := range may {
			rows = append(rows, []api.Value{a, b})
		}
	}
	count := len(rows)
	for n := range count * count * count {
		for i, k := range []int{n % count, n / count % count, n / count / count} {
			lay(t, h, arrays[i], rows[k])
		}
		for _, a := range arrays {
			u, _ := secondText(h, a)
			if w, e := Text(h, a); w != asWide(u) || e != api.OK {
				t.Fatal(n, a.Ref, short(w), e, short(asWide(u)))
			}
		}
	}
}

// lay gives an array other items.
func lay(t *testing.T, h *esheap.Heap, array api.Value, items []api.Value) {
	t.Helper()
	if e := h.Put(array.Ref, wideOf("length"), num(0)); e != api.OK {
		t.Fatal(e)
	}
	puts(t, h, array, items...)
}

// P9.1 to P9.3: arrays by dice, in one another in all ways, with values of all sorts in them.
func TestRingsByDice(t *testing.T) {
	t.Parallel()
	dice := rand.New(rand.NewSource(9))
	tooLong, others := 0, 0
	for range 1500 {
		h := esheap.New(1000)
		var arrays []api.Value
		for range 1 + dice.Intn(9) {
			arrays = append(arrays, list(t, h))
		}
		leaves := []api.Value{undefined(), null(), boolean(1), num(7), str("ab"), str(""), builtin(1), plain(t, h), funcOf(t, h), long(api.MaxUnits - dice.Intn(40))}
		most, share := 1+dice.Intn(4), dice.Intn(100)
		for _, a := range arrays {
			for range dice.Intn(most + 1) {
				v := leaves[dice.Intn(len(leaves))]
				if dice.Intn(100) < share {
					v = arrays[dice.Intn(len(arrays))]
				}
				puts(t, h, a, v)
			}
		}
		for range 4 {
			a, b := arrays[dice.Intn(len(arrays))], arrays[dice.Intn(len(arrays))]
			if dice.Intn(2) == 0 {
				b = leaves[dice.Intn(len(leaves))]
			}
			holds(t, h, a, b)
			holds(t, h, b, a)
			areHeld(t, h, a, b)
			if _, ok := secondText(h, a); ok {
				others++
			} else {
				tooLong++
			}
		}
		if t.Failed() {
			t.Fatal("by dice")
		}
	}
	if tooLong < 100 || others < 1000 {
		t.Error(tooLong, others)
	}
}
