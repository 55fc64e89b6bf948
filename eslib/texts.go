package eslib

import (
	"math"

	"pennant/api"
	"pennant/utf"
)

// own is the text of this, which must be a Text.
func (c *call) own() string {
	need(c.this.Kind == api.Text)
	return wholeUnits(c.this.Text)
}

// wholeUnits is a wide text without a byte that belongs to no unit.
func wholeUnits(w string) string { return utf.Cut(w, 0, utf.Length(w)) }

// unit is the place that the first argument tells of a unit of w, if that has one there.
func (c *call) unit(w string) (int, bool) {
	x := c.whole(0)
	if x < 0 || x >= float64(utf.Length(w)) {
		return 0, false
	}
	return int(x), true
}

func (c *call) charAt() api.Value {
	w := c.own()
	i, ok := c.unit(w)
	if !ok {
		return text("")
	}
	return text(utf.Cut(w, i, i+1))
}

func (c *call) charCodeAt() api.Value {
	w := c.own()
	i, ok := c.unit(w)
	if !ok {
		return number(math.NaN())
	}
	u, _ := utf.At(w, i)
	return number(float64(u))
}

func (c *call) textIndexOf() api.Value {
	w := c.own()
	part := c.text(0)
	from := within(c.whole(1), utf.Length(w))
	return number(float64(utf.Find(w, part, from)))
}

func (c *call) substring() api.Value {
	w := c.own()
	from, to := c.places(within, utf.Length(w))
	return text(utf.Cut(w, min(from, to), max(from, to)))
}

func (c *call) textSlice() api.Value {
	w := c.own()
	from, to := c.places(fromEnd, utf.Length(w))
	return text(utf.Cut(w, from, to))
}

func (c *call) toUpperCase() api.Value { return text(utf.Upper(c.own())) }

func (c *call) toLowerCase() api.Value { return text(utf.Lower(c.own())) }

func (c *call) split() api.Value {
	w := c.own()
	if c.lacks(0) {
		return newArray(c.heap, []api.Value{text(w)})
	}
	mark := c.text(0)
	if utf.Length(mark) == 0 {
		return newArray(c.heap, units(w))
	}
	return newArray(c.heap, parts(w, mark))
}

// units are the Texts of a text's units, one by one.
func units(w string) (list []api.Value) {
	for i := range utf.Length(w) {
		list = more(list, text(utf.Cut(w, i, i+1)))
	}
	return list
}

// parts are the Texts between the places of mark, which has units.
func parts(w, mark string) (list []api.Value) {
	from := 0
	for {
		at := utf.Find(w, mark, from)
		if at < 0 {
			return more(list, text(utf.Cut(w, from, utf.Length(w))))
		}
		list = more(list, text(utf.Cut(w, from, at)))
		from = at + utf.Length(mark)
	}
}
