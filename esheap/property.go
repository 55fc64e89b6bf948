package esheap

import (
	"math"
	"slices"

	"pennant/api"
)

// Own is an own property.
func (h *Heap) Own(i int, key string) (api.Value, bool) {
	if !h.has(i) {
		return api.Value{}, false
	}
	o := h.objects[i]
	if o.isLength(key) {
		return api.Value{Kind: api.Number, Num: float64(len(o.items))}, true
	}
	n, ok := o.index(key)
	if !ok {
		return o.own.get(key)
	}
	if n >= len(o.items) {
		return api.Value{}, false
	}
	return o.items[n], true
}

// Get is a property, along the prototypes.
func (h *Heap) Get(i int, key string) (api.Value, bool) {
	at, v := h.find(i, key)
	return v, at != none
}

// Set writes a property where it is found.
func (h *Heap) Set(i int, key string, v api.Value) (bool, api.Errno) {
	if !h.has(i) {
		return false, api.ErrNone
	}
	at, _ := h.find(i, key)
	if at == none {
		return false, api.OK
	}
	return true, h.Put(at, key, v)
}

// find tells the object that has a property, the first one along the prototypes, and its value.
func (h *Heap) find(i int, key string) (int, api.Value) {
	for h.has(i) {
		v, ok := h.Own(i, key)
		if ok {
			return i, v
		}
		i = h.objects[i].proto
	}
	return none, api.Value{}
}

// Put writes an own property.
func (h *Heap) Put(i int, key string, v api.Value) api.Errno {
	if !h.has(i) {
		return api.ErrNone
	}
	if !h.isRight(v) {
		return api.ErrArg
	}
	o := h.objects[i]
	if o.isLength(key) {
		return h.putLength(o, v)
	}
	if n, ok := o.index(key); ok {
		return h.putItem(o, n, v)
	}
	return h.putOwn(o, key, v)
}

func (h *Heap) putOwn(o *object, key string, v api.Value) api.Errno {
	if !o.own.has(key) {
		if h.left == 0 {
			return api.ErrHeap
		}
		h.left--
	}
	o.own.put(key, v)
	return api.OK
}

func (h *Heap) putItem(o *object, n int, v api.Value) api.Errno {
	if n >= len(o.items) {
		// How many come in is one more than this: not reckoned, as it may be one above the greatest int.
		ahead := n - len(o.items)
		if ahead >= h.left {
			return api.ErrHeap
		}
		h.resize(o, n+1)
	}
	o.items[n] = v
	return api.OK
}

func (h *Heap) putLength(o *object, v api.Value) api.Errno {
	if v.Kind != api.Number || !(v.Num >= 0 && v.Num <= math.MaxInt32) || v.Num != math.Trunc(v.Num) {
		return api.ErrArg
	}
	n := int(v.Num)
	if n-len(o.items) > h.left {
		return api.ErrHeap
	}
	h.resize(o, n)
	return api.OK
}

// resize cuts off items, or has Undefined ones come in, for which cells must be left.
func (h *Heap) resize(o *object, n int) {
	more := n - len(o.items)
	h.left -= more
	if more < 0 {
		o.items = slices.Delete(o.items, n, len(o.items))
		return
	}
	o.items = append(o.items, make([]api.Value, more)...)
}

// Drop takes an own property away.
func (h *Heap) Drop(i int, key string) bool {
	_, ok := h.Own(i, key)
	if !ok || h.objects[i].isLength(key) {
		return false
	}
	o := h.objects[i]
	if n, ok := o.index(key); ok {
		o.items[n] = api.Value{}
		return true
	}
	o.own.drop(key)
	h.left++
	return true
}

// Keys are an object's own.
func (h *Heap) Keys(i int) []string {
	if !h.has(i) {
		return nil
	}
	o := h.objects[i]
	list := make([]string, 0, len(o.items)+len(o.own.byKey))
	for n := range o.items {
		list = append(list, Key(n))
	}
	return o.own.keys(list)
}

func (o *object) isLength(key string) bool { return o.kind == array && key == length }

// index is the number of the item that a key is of, if the object has such.
func (o *object) index(key string) (int, bool) {
	if o.kind != array {
		return 0, false
	}
	return Index(key)
}
