package eslib

import (
	"pennant/api"
	"pennant/esconv"
	"pennant/esheap"
)

// comma stands between the items' texts, where join is told nothing else.
const comma = "\x00,"

// items are those of this, which must be an array.
func (c *call) items() []api.Value {
	need(isArray(c.heap, c.this))
	items, _ := c.heap.Items(c.this.Ref)
	return items
}

// count is how many items this has, which must be an array: told without a copy of them, as scripts push and pop one by one.
func (c *call) count() int {
	need(isArray(c.heap, c.this))
	n, _ := c.heap.Own(c.this.Ref, wide("length"))
	return int(n.Num)
}

func (c *call) push() api.Value {
	n := c.count()
	for _, v := range c.args {
		must(c.heap.Put(c.this.Ref, esheap.Key(n), v))
		n++
	}
	return number(float64(n))
}

func (c *call) pop() api.Value {
	n := c.count()
	if n == 0 {
		return api.Value{}
	}
	last, _ := c.heap.Own(c.this.Ref, esheap.Key(n-1))
	must(c.heap.Put(c.this.Ref, wide("length"), number(float64(n-1))))
	return last
}

func (c *call) arraySlice() api.Value {
	items := c.items()
	from, to := c.places(fromEnd, len(items))
	return newArray(c.heap, items[from:max(from, to)])
}

func (c *call) join() api.Value {
	items := c.items()
	between := comma
	if !c.lacks(0) {
		between = c.text(0)
	}
	var w writer
	for i, v := range items {
		if i > 0 {
			w.wide(between)
		}
		w.wide(c.itemText(v))
	}
	return w.text()
}

func (c *call) itemText(v api.Value) string {
	if v.Kind == api.Undefined || v.Kind == api.Null || esconv.Strict(v, c.this) {
		return ""
	}
	return textOf(c.heap, v)
}

func (c *call) arrayIndexOf() api.Value {
	for i, v := range c.items() {
		if esconv.Strict(v, c.arg(0)) {
			return number(float64(i))
		}
	}
	return number(-1)
}

func (c *call) concat() api.Value {
	all := c.items()
	for _, v := range c.args {
		if !isArray(c.heap, v) {
			all = more(all, v)
			continue
		}
		items, _ := c.heap.Items(v.Ref)
		all = more(all, items...)
	}
	return newArray(c.heap, all)
}

func (c *call) reverse() api.Value {
	items := c.items()
	for i, v := range items {
		must(c.heap.Put(c.this.Ref, esheap.Key(len(items)-1-i), v))
	}
	return c.this
}
