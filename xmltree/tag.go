package xmltree

import (
	"cmp"
	"slices"

	"pennant/api"
)

// element is the node of a start tag, without its parent, and what names mean in it. The steps stand in the order in which their faults are told.
func element(k api.Tok, around *scope) (api.Node, *scope, error) {
	if i := repeated(k.Attrs, nameOf); i >= 0 {
		return api.Node{}, nil, fault(api.ErrAttr, k.Attrs[i].At)
	}
	inside, err := around.with(k.Attrs)
	if err != nil {
		return api.Node{}, nil, err
	}
	space, local, e := inside.ofElement(k.Name)
	if e != api.OK {
		return api.Node{}, nil, fault(e, k.At)
	}
	extras, err := inside.extras(k.Attrs)
	if err != nil {
		return api.Node{}, nil, err
	}
	return api.Node{Space: space, Local: local, Extras: extras, At: k.At}, inside, nil
}

// extras are the attributes that aren't declarations. That two have one expanded name is told when all names are known to be right.
func (s *scope) extras(attrs []api.Attr) ([]api.Extra, error) {
	var list []api.Extra
	for _, a := range attrs {
		if isDeclaration(a.Name) {
			continue
		}
		space, local, e := s.ofAttribute(a.Name)
		if e != api.OK {
			return nil, fault(e, a.At)
		}
		list = append(list, api.Extra{Space: space, Local: local, Value: a.Value, At: a.At})
	}
	if i := repeated(list, expandedOf); i >= 0 {
		return nil, fault(api.ErrAttr, list[i].At)
	}
	slices.SortFunc(list, compare)
	return list, nil
}

// compare is the order of extras.
func compare(a, b api.Extra) int {
	return cmp.Or(cmp.Compare(a.Space, b.Space), cmp.Compare(a.Local, b.Local))
}

// repeated is the number of the first item whose key an earlier one has; -1, if there is none.
func repeated[T any, K comparable](list []T, key func(T) K) int {
	met := map[K]bool{}
	for i, x := range list {
		if met[key(x)] {
			return i
		}
		met[key(x)] = true
	}
	return -1
}

type expanded struct{ space, local string }

func nameOf(a api.Attr) string { return a.Name }

func expandedOf(x api.Extra) expanded { return expanded{x.Space, x.Local} }
