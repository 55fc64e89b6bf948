package eslib

import (
	"math"

	"pennant/api"
)

func (c *call) toNumber() api.Value {
	if len(c.args) == 0 {
		return number(0)
	}
	return number(c.number(0))
}

func (c *call) toText() api.Value {
	if len(c.args) == 0 {
		return text("")
	}
	return text(c.text(0))
}

func (c *call) isNaN() api.Value { return boolean(math.IsNaN(c.number(0))) }

func (c *call) abs() api.Value { return number(math.Abs(c.number(0))) }

func (c *call) floor() api.Value { return number(math.Floor(c.number(0))) }

func (c *call) ceil() api.Value { return number(math.Ceil(c.number(0))) }

func (c *call) greatest() api.Value {
	most := math.Inf(-1)
	for i := range c.args {
		// Go's own max, as that of package math puts an infinity above NaN.
		most = max(most, c.number(i))
	}
	return number(most)
}

func (c *call) least() api.Value {
	fewest := math.Inf(1)
	for i := range c.args {
		fewest = min(fewest, c.number(i))
	}
	return number(fewest)
}

func (c *call) keys() api.Value {
	need(c.arg(0).Kind == api.Object)
	list := c.heap.Keys(c.arg(0).Ref)
	items := make([]api.Value, len(list))
	for i, key := range list {
		items[i] = text(wholeUnits(key))
	}
	return newArray(c.heap, items)
}

func (c *call) create() api.Value {
	switch proto := c.arg(0); proto.Kind {
	case api.Object:
		return newPlain(c.heap, proto.Ref)
	case api.Null:
		return newPlain(c.heap, noProto)
	}
	panic(stop{api.ErrThrow})
}
