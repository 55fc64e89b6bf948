package esconv

import (
	"math"

	"pennant/api"
	"pennant/esheap"
	"pennant/utf"
)

// Strict says whether two values are the same by ===.
func Strict(a, b api.Value) bool {
	if a.Kind != b.Kind {
		return false
	}
	switch a.Kind {
	case api.Bool, api.Number:
		return a.Num == b.Num
	case api.Text:
		return a.Text == b.Text
	case api.Object, api.Builtin:
		return a.Ref == b.Ref
	}
	return true
}

// Loose says whether two values are the same by ==.
func Loose(h *esheap.Heap, a, b api.Value) (bool, api.Errno) {
	if a.Kind == b.Kind || isThing(a) && isThing(b) {
		return Strict(a, b), api.OK
	}
	if isNothing(a) || isNothing(b) {
		return isNothing(a) && isNothing(b), api.OK
	}
	p, q, e := plainOfBoth(h, a, b)
	if e != api.OK {
		return false, e
	}
	if areTexts(p, q) {
		return p.Text == q.Text, api.OK
	}
	return number(p) == number(q), api.OK
}

// Less holds two values by <.
func Less(h *esheap.Heap, a, b api.Value) (int, api.Errno) {
	p, q, e := plainOfBoth(h, a, b)
	if e != api.OK {
		return 0, e
	}
	if areTexts(p, q) {
		// Units stand with the higher byte first, so that their order is that of their bytes.
		return oneIf(p.Text < q.Text), api.OK
	}
	x, y := number(p), number(q)
	if math.IsNaN(x) || math.IsNaN(y) {
		return -1, api.OK
	}
	return oneIf(x < y), api.OK
}

// Add adds two values by +.
func Add(h *esheap.Heap, a, b api.Value) (api.Value, api.Errno) {
	p, q, e := plainOfBoth(h, a, b)
	if e != api.OK {
		return api.Value{}, e
	}
	if p.Kind != api.Text && q.Kind != api.Text {
		return api.Value{Kind: api.Number, Num: number(p) + number(q)}, api.OK
	}
	v, w := ownText(h, p), ownText(h, q)
	if utf.Length(v)+utf.Length(w) > api.MaxUnits {
		return api.Value{}, api.ErrHeap
	}
	return text(v + w), api.OK
}

func plainOfBoth(h *esheap.Heap, a, b api.Value) (api.Value, api.Value, api.Errno) {
	p, e := plainOf(h, a)
	if e != api.OK {
		return api.Value{}, api.Value{}, e
	}
	q, e := plainOf(h, b)
	if e != api.OK {
		return api.Value{}, api.Value{}, e
	}
	return p, q, api.OK
}

func areTexts(a, b api.Value) bool { return a.Kind == api.Text && b.Kind == api.Text }

func isNothing(v api.Value) bool { return v.Kind == api.Undefined || v.Kind == api.Null }

func oneIf(b bool) int {
	if b {
		return 1
	}
	return 0
}
