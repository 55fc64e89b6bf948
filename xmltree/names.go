package xmltree

import (
	"strings"
	"unicode/utf8"

	"pennant/api"
)

// The two spaces that belong to prefixes of their own.
const (
	xmlSpace   = "http://www.w3.org/XML/1998/namespace"
	xmlnsSpace = "http://www.w3.org/2000/xmlns/"
)

// A scope is what prefixes mean in an element: by its own declarations, else by those around it. The space of elements without a prefix lies under the empty one.
type scope struct {
	around *scope
	spaces map[string]string
}

// outermost is what holds ahead of all declarations.
func outermost() *scope {
	return &scope{spaces: map[string]string{"": "", "xml": xmlSpace}}
}

// with is the scope in an element that stands in s and has these attributes.
func (s *scope) with(attrs []api.Attr) (*scope, error) {
	inside := &scope{around: s, spaces: map[string]string{}}
	for _, a := range attrs {
		if !isDeclaration(a.Name) {
			continue
		}
		prefix, ok := declared(a.Name)
		if !ok || !mayMean(prefix, a.Value) {
			return nil, fault(api.ErrPrefix, a.At)
		}
		inside.spaces[prefix] = a.Value
	}
	return inside, nil
}

func (s *scope) space(prefix string) (string, bool) {
	for ; s != nil; s = s.around {
		if space, ok := s.spaces[prefix]; ok {
			return space, true
		}
	}
	return "", false
}

func (s *scope) ofElement(name string) (string, string, api.Errno) {
	plain, _ := s.space("")
	return s.expand(name, plain)
}

func (s *scope) ofAttribute(name string) (string, string, api.Errno) {
	return s.expand(name, "")
}

// expand tells a name's space and local name, or what is wrong with it; plain is the space of a name without a prefix.
func (s *scope) expand(name, plain string) (string, string, api.Errno) {
	prefix, local, ok := parts(name)
	space := plain
	if ok && prefix != "" {
		space, ok = s.space(prefix)
	}
	if !ok {
		return "", "", api.ErrPrefix
	}
	if isLong(local) {
		return "", "", api.ErrLong
	}
	return space, local, api.OK
}

func isDeclaration(name string) bool {
	return name == "xmlns" || strings.HasPrefix(name, "xmlns:")
}

// declared is the prefix that a declaration is of (none of xmlns alone), and whether its name is right.
func declared(name string) (string, bool) {
	if name == "xmlns" {
		return "", true
	}
	_, local, ok := parts(name)
	return local, ok
}

// mayMean tells whether a prefix may be declared to mean a space.
func mayMean(prefix, space string) bool {
	switch {
	case prefix == "xmlns" || space == xmlnsSpace:
		return false
	case prefix == "xml" || space == xmlSpace:
		return prefix == "xml" && space == xmlSpace
	}
	return prefix == "" || space != ""
}

// parts are a name's prefix (empty where there is no colon) and its local name, and whether it is made as it must be.
func parts(name string) (string, string, bool) {
	prefix, local, found := strings.Cut(name, ":")
	if !found {
		return "", name, true
	}
	return prefix, local, prefix != "" && isLocal(local)
}

// isLocal tells a local name by its bytes: all characters above 7F may stand in one, also as its first.
func isLocal(s string) bool {
	for i := range len(s) {
		if !goesOnLocal(s[i]) {
			return false
		}
	}
	return s != "" && opensLocal(s[0])
}

func opensLocal(b byte) bool {
	return b >= 'a' && b <= 'z' || b >= 'A' && b <= 'Z' || b == '_' || b > 0x7F
}

func goesOnLocal(b byte) bool {
	return opensLocal(b) || b >= '0' && b <= '9' || b == '-' || b == '.'
}

func isLong(local string) bool {
	return utf8.RuneCountInString(local) > api.MaxLocal
}
