package eslib

import (
	"math"
	"slices"

	"pennant/api"
	"pennant/esheap"
	"pennant/utf"
)

// firstBare is the first unit that may stand by itself in a JSON text.
const firstBare = 32

// sixteen has the digits of sixteen.
const sixteen = "0123456789abcdef"

// A teller writes a value as a JSON text.
type teller struct {
	writer
	heap *esheap.Heap
	// The objects that are being written, each in the one ahead of it.
	around []int
	told   map[int][]property
}

// A property is one that has a text.
type property struct {
	key   string
	value api.Value
}

func stringified(h *esheap.Heap, v api.Value) api.Value {
	t := teller{heap: h, told: map[int][]property{}}
	if !t.hasText(v) {
		return api.Value{}
	}
	t.value(v)
	return t.text()
}

// hasText says whether a value would be more than undefined.
func (t *teller) hasText(v api.Value) bool {
	switch v.Kind {
	case api.Null, api.Bool, api.Number, api.Text:
		return true
	}
	kind := kindOf(t.heap, v)
	return kind == plain || kind == array
}

// value writes what has a text.
func (t *teller) value(v api.Value) {
	switch {
	case v.Kind == api.Text:
		t.quoted(v.Text)
	case v.Kind == api.Object:
		t.object(v)
	case v.Kind == api.Number && (math.IsNaN(v.Num) || math.IsInf(v.Num, 0)):
		t.plain("null")
	default:
		t.wide(textOf(t.heap, v))
	}
}

func (t *teller) object(v api.Value) {
	if slices.Contains(t.around, v.Ref) || len(t.around) > api.MaxNest {
		fail(api.ErrThrow)
	}
	t.around = append(t.around, v.Ref)
	if isArray(t.heap, v) {
		t.list(v.Ref)
	} else {
		t.record(v.Ref)
	}
	t.around = t.around[:len(t.around)-1]
}

// list writes an array.
func (t *teller) list(ref int) {
	items, _ := t.heap.Items(ref)
	t.plain("[")
	for i, v := range items {
		t.comma(i)
		if t.hasText(v) {
			t.value(v)
		} else {
			t.plain("null")
		}
	}
	t.plain("]")
}

// record writes a plain object.
func (t *teller) record(ref int) {
	t.plain("{")
	for i, p := range t.properties(ref) {
		t.comma(i)
		t.quoted(p.key)
		t.plain(":")
		t.value(p.value)
	}
	t.plain("}")
}

// comma writes one ahead of all but the first.
func (t *teller) comma(i int) {
	if i > 0 {
		t.plain(",")
	}
}

// properties are an object's own that have a text. As the others write nothing, only going through them once keeps the time bounded by the text's length, however often an object stands in others.
func (t *teller) properties(ref int) []property {
	list, ok := t.told[ref]
	if ok {
		return list
	}
	for _, key := range t.heap.Keys(ref) {
		v, _ := t.heap.Own(ref, key)
		if t.hasText(v) {
			list = append(list, property{key, v})
		}
	}
	t.told[ref] = list
	return list
}

// quoted writes a text in marks.
func (t *teller) quoted(w string) {
	t.plain(`"`)
	for i := range utf.Length(w) {
		u, _ := utf.At(w, i)
		t.unit(u)
	}
	t.plain(`"`)
}

func (t *teller) unit(u int) {
	switch {
	case u == '"' || u == '\\':
		t.plain(`\` + string([]byte{byte(u)}))
	case u < firstBare:
		t.plain(`\` + control(u))
	default:
		t.wide(string([]byte{byte(u >> 8), byte(u)}))
	}
}

// control is what says a unit below those that may stand by themselves, behind a \.
func control(u int) string {
	switch u {
	case '\b':
		return "b"
	case '\f':
		return "f"
	case '\n':
		return "n"
	case '\r':
		return "r"
	case '\t':
		return "t"
	}
	return "u00" + sixteen[u>>4:u>>4+1] + sixteen[u&15:u&15+1]
}
