package eslib

import (
	"pennant/api"
	"pennant/utf"
)

// A writer puts a text together, and stops as soon as that is too long.
type writer struct {
	bytes []byte
}

// wide writes a wide text.
func (w *writer) wide(part string) {
	if len(w.bytes)/2+utf.Length(part) > api.MaxUnits {
		fail(api.ErrHeap)
	}
	w.bytes = append(w.bytes, part...)
}

// plain writes plain bytes, each as a unit.
func (w *writer) plain(part string) { w.wide(wide(part)) }

// text is what was written.
func (w *writer) text() api.Value { return text(string(w.bytes)) }
