package eslib

import (
	"math"

	"pennant/api"
	"pennant/esheap"
)

// A named value is a property to be.
type named struct {
	name  string
	value api.Value
}

// install makes the global object, and those that are its properties behind it.
func install(h *esheap.Heap) api.Value {
	list := append(constants(), builtinsOf(ofGlobal)...)
	holders := [...]string{ofMath: "Math", ofJSON: "JSON", ofObject: "Object", ofArray: "Array"}
	cells := 1 + len(list)
	for of := ofMath; of <= ofArray; of++ {
		// The object, the property that holds it, and its own ones.
		cells += 2 + len(builtinsOf(of))
	}
	// Asked ahead of the first object: where cells lack none are taken.
	if _, left := h.Size(); left < cells {
		fail(api.ErrHeap)
	}
	global := newWith(h, list)
	for of := ofMath; of <= ofArray; of++ {
		holder := newWith(h, builtinsOf(of))
		putNamed(h, global, named{holders[of], holder})
	}
	return global
}

func constants() []named {
	return []named{{"undefined", api.Value{}}, {"NaN", number(math.NaN())}, {"Infinity", number(math.Inf(1))}}
}

func builtinsOf(of int) []named {
	var list []named
	for _, r := range table {
		if r.of == of {
			list = append(list, named{r.name, builtin(r.id)})
		}
	}
	return list
}

func newWith(h *esheap.Heap, list []named) api.Value {
	o := newPlain(h, noProto)
	for _, n := range list {
		putNamed(h, o, n)
	}
	return o
}

func putNamed(h *esheap.Heap, o api.Value, n named) {
	must(h.Put(o.Ref, wide(n.name), n.value))
}
