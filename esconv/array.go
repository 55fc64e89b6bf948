package esconv

import (
	"pennant/api"
	"pennant/esheap"
	"pennant/utf"
)

// comma stands between the texts of an array's items, as a wide text.
const comma = "\x00,"

// writer puts the text of an array together.
type writer struct {
	heap   *esheap.Heap
	arrays map[int]*row
	text   []byte
}

// row is an array that was met.
type row struct {
	items []api.Value
	// open tells that its text is being written: where it is met then it stands in itself.
	open bool
	// What an array of one item comes down to, once it is known: its text is that value's.
	core    api.Value
	hasCore bool
}

func arrayText(h *esheap.Heap, v api.Value) (string, api.Errno) {
	w := writer{heap: h, arrays: map[int]*row{}}
	if !w.item(v) {
		return "", api.ErrHeap
	}
	return string(w.text), api.OK
}

// item writes the text that a value has in an array, and says whether there was room for it.
func (w *writer) item(v api.Value) bool {
	v = w.core(v)
	if r := w.rowOf(v); r != nil {
		return w.list(r)
	}
	if v.Kind == api.Undefined || v.Kind == api.Null {
		return true
	}
	return w.add(ownText(w.heap, v))
}

func (w *writer) list(r *row) bool {
	if r.open {
		return true
	}
	r.open = true
	for i, v := range r.items {
		if i > 0 && !w.add(comma) || !w.item(v) {
			return false
		}
	}
	r.open = false
	return true
}

// add writes no more than a text may have, so that it ends however often arrays share their items.
func (w *writer) add(part string) bool {
	if len(w.text)/2+utf.Length(part) > api.MaxUnits {
		return false
	}
	w.text = append(w.text, part...)
	return true
}

// rowOf is the array that a value is; nil of others.
func (w *writer) rowOf(v api.Value) *row {
	if kindOf(w.heap, v) != array {
		return nil
	}
	r := w.arrays[v.Ref]
	if r == nil {
		items, _ := w.heap.Items(v.Ref)
		r = &row{items: items}
		w.arrays[v.Ref] = r
	}
	return r
}

// core goes down arrays of one item to what isn't one. As they write nothing of their own, only going down each of them once keeps the time bounded by the text's length. One that stands in itself comes down to Undefined, whose text is the same there.
func (w *writer) core(v api.Value) api.Value {
	var way []*row
	for r := w.rowOf(v); r != nil && len(r.items) == 1; r = w.rowOf(v) {
		if r.hasCore {
			v = r.core
			break
		}
		r.hasCore = true
		way = append(way, r)
		v = r.items[0]
	}
	for _, r := range way {
		r.core = v
	}
	return v
}
