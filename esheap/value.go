package esheap

import (
	"pennant/api"
	"pennant/esnum"
)

// isRight says whether a value has all that its kind uses, and nothing else.
func (h *Heap) isRight(v api.Value) bool {
	return isRightNum(v) && isRightText(v) && h.isRightRef(v) && v.Kind >= api.Undefined && v.Kind <= api.Builtin
}

func isRightNum(v api.Value) bool {
	// -0 is no 0 here, though it is equal to it.
	return v.Kind == api.Number || esnum.Same(v.Num, 0) || v.Kind == api.Bool && v.Num == 1
}

func isRightText(v api.Value) bool {
	if v.Kind == api.Text {
		return len(v.Text)%2 == 0
	}
	return v.Text == ""
}

func (h *Heap) isRightRef(v api.Value) bool {
	switch v.Kind {
	case api.Object:
		return h.has(v.Ref)
	case api.Builtin:
		return v.Ref >= 0
	}
	return v.Ref == 0
}
