package xmltree

import (
	"unicode/utf8"

	"pennant/api"
)

// isRight tells whether Parse could tell a tree of some document, but for places.
func isRight(t api.Tree) bool {
	if len(t.Nodes) == 0 || len(t.Nodes) > api.MaxNodes {
		return false
	}
	// What a next node may stand in, the outermost first; ahead of the root only what no node is.
	open := []int{-1}
	for i, n := range t.Nodes {
		open = upTo(open, n.Parent)
		if len(open) == 0 || i > 0 && n.Parent < 0 {
			return false
		}
		if isText(n) {
			if !isRightText(n) || !mayHoldText(t, i) {
				return false
			}
			continue
		}
		if !isRightElement(n) || len(open) > api.MaxDepth {
			return false
		}
		open = append(open, i)
	}
	return true
}

// upTo is the list up to its last i; nothing, if i isn't in it.
func upTo(list []int, i int) []int {
	for len(list) > 0 && list[len(list)-1] != i {
		list = list[:len(list)-1]
	}
	return list
}

func isText(n api.Node) bool { return n.Local == "" }

// mayHoldText tells whether text number i stands in the root, and no text right ahead of it: both would be one.
func mayHoldText(t api.Tree, i int) bool {
	if i == 0 {
		return false
	}
	ahead := t.Nodes[i-1]
	return !isText(ahead) || ahead.Parent != t.Nodes[i].Parent
}

func isRightText(n api.Node) bool {
	return n.Text != "" && isWritten(n.Text) && n.Space == "" && len(n.Extras) == 0
}

func isRightElement(n api.Node) bool {
	if n.Text != "" || !isRightName(n.Space, n.Local) {
		return false
	}
	for i, x := range n.Extras {
		if !isRightExtra(x) || i > 0 && compare(n.Extras[i-1], x) >= 0 {
			return false
		}
	}
	return true
}

// isRightExtra leaves out what would be a declaration.
func isRightExtra(x api.Extra) bool {
	return isRightName(x.Space, x.Local) && isWritten(x.Value) && (x.Space != "" || x.Local != "xmlns")
}

func isRightName(space, local string) bool {
	return isLocal(local) && !isLong(local) && isWritten(local) && isWritten(space) && space != xmlnsSpace
}

// isWritten tells whether each character of a text may come of a document, 13 by its number.
func isWritten(s string) bool {
	for _, c := range s {
		if !mayCome(c) {
			return false
		}
	}
	return utf8.ValidString(s)
}

func mayCome(c rune) bool {
	if c < ' ' {
		return c == '\t' || c == '\n' || c == '\r'
	}
	return c != 0xFFFE && c != 0xFFFF
}
