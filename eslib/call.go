package eslib

import (
	"pennant/api"
	"pennant/esconv"
	"pennant/esheap"
	"pennant/esnum"
)

// A call is one of a builtin.
type call struct {
	heap *esheap.Heap
	this api.Value
	args []api.Value
}

// function is what the builtin of that number answers.
func (c *call) function(id int) api.Value {
	switch id {
	case toNumber:
		return c.toNumber()
	case toText:
		return c.toText()
	case toBool:
		return boolean(esconv.Bool(c.arg(0)))
	case isNaN:
		return c.isNaN()
	case parseInt:
		return c.parseInt()
	case abs:
		return c.abs()
	case floor:
		return c.floor()
	case ceil:
		return c.ceil()
	case greatest:
		return c.greatest()
	case least:
		return c.least()
	case parse:
		return parsed(c.heap, c.text(0))
	case stringify:
		return stringified(c.heap, c.arg(0))
	case keys:
		return c.keys()
	case create:
		return c.create()
	case isAnArray:
		return boolean(isArray(c.heap, c.arg(0)))
	}
	return c.method(id)
}

// method is what the method of that number answers.
func (c *call) method(id int) api.Value {
	switch id {
	case push:
		return c.push()
	case pop:
		return c.pop()
	case arraySlice:
		return c.arraySlice()
	case join:
		return c.join()
	case arrayIndexOf:
		return c.arrayIndexOf()
	case concat:
		return c.concat()
	case reverse:
		return c.reverse()
	case charAt:
		return c.charAt()
	case charCodeAt:
		return c.charCodeAt()
	case textIndexOf:
		return c.textIndexOf()
	case substring:
		return c.substring()
	case textSlice:
		return c.textSlice()
	case toUpperCase:
		return c.toUpperCase()
	case toLowerCase:
		return c.toLowerCase()
	case split:
		return c.split()
	}
	panic(stop{api.ErrThrow})
}

// arg is an argument; Undefined, if it lacks.
func (c *call) arg(i int) api.Value {
	if i >= len(c.args) {
		return api.Value{}
	}
	return c.args[i]
}

// lacks says whether an argument isn't there, or Undefined, which is the same.
func (c *call) lacks(i int) bool { return c.arg(i).Kind == api.Undefined }

// text is an argument as a text.
func (c *call) text(i int) string { return textOf(c.heap, c.arg(i)) }

// number is an argument as a number.
func (c *call) number(i int) float64 { return numberOf(c.heap, c.arg(i)) }

// whole is an argument as a whole number.
func (c *call) whole(i int) float64 { return esnum.Whole(c.number(i)) }

func textOf(h *esheap.Heap, v api.Value) string {
	w, e := esconv.Text(h, v)
	must(e)
	return w
}

func numberOf(h *esheap.Heap, v api.Value) float64 {
	x, e := esconv.Number(h, v)
	must(e)
	return x
}
