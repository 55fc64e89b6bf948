package eslib

import (
	"pennant/api"
	"pennant/esheap"
	"pennant/utf"
)

// The kinds of a heap's objects, as layer 8 tells them.
const (
	plain = 1
	array = 2
)

// noProto is told where a plain object is to have no prototype.
const noProto = -1

func null() api.Value            { return api.Value{Kind: api.Null} }
func number(x float64) api.Value { return api.Value{Kind: api.Number, Num: x} }
func text(w string) api.Value    { return api.Value{Kind: api.Text, Text: w} }
func object(i int) api.Value     { return api.Value{Kind: api.Object, Ref: i} }
func builtin(id int) api.Value   { return api.Value{Kind: api.Builtin, Ref: id} }

func boolean(is bool) api.Value {
	if is {
		return api.Value{Kind: api.Bool, Num: 1}
	}
	return api.Value{Kind: api.Bool}
}

// kindOf is the kind of a heap's object, and 0 of all other values.
func kindOf(h *esheap.Heap, v api.Value) int {
	if v.Kind != api.Object {
		return 0
	}
	return h.Kind(v.Ref)
}

func isArray(h *esheap.Heap, v api.Value) bool { return kindOf(h, v) == array }

func newPlain(h *esheap.Heap, proto int) api.Value {
	i, e := h.Plain(proto)
	must(e)
	return object(i)
}

func newArray(h *esheap.Heap, items []api.Value) api.Value {
	i, e := h.Array(items)
	must(e)
	return object(i)
}

// more is a list with values behind it. No heap has cells for more of them than it lets in, so that no list grows on which no array can be made of.
func more(list []api.Value, values ...api.Value) []api.Value {
	if len(list)+len(values) > api.MaxCells {
		fail(api.ErrHeap)
	}
	return append(list, values...)
}

func wide(b string) string {
	w, _, _ := utf.Wide(b)
	return w
}
