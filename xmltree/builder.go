package xmltree

import (
	"strings"

	"pennant/api"
)

// blanks are the characters of texts that say nothing outside of the root; 13 comes of a reference alone.
const blanks = "\t\n\r "

// An opened element has not ended yet: its name as it is written, its node's number, and what names mean in it.
type opened struct {
	name  string
	node  int
	scope *scope
}

// A builder lays a document's tokens down as nodes.
type builder struct {
	nodes []api.Node
	// The outermost first; below the root lies what stands around it, which never ends.
	open []opened
}

func newBuilder() *builder {
	return &builder{open: []opened{{node: -1, scope: outermost()}}}
}

func (b *builder) token(k api.Tok) error {
	switch k.Kind {
	case api.TokStart:
		return b.startTag(k)
	case api.TokEnd:
		return b.endTag(k)
	default:
		return b.text(k)
	}
}

// inner is what was opened last, and has not ended.
func (b *builder) inner() opened { return b.open[len(b.open)-1] }

func (b *builder) inRoot() bool { return len(b.open) > 1 }

func (b *builder) isFull() bool { return len(b.nodes) == api.MaxNodes }

func (b *builder) startTag(k api.Tok) error {
	if e := b.refused(); e != api.OK {
		return fault(e, k.At)
	}
	around := b.inner()
	n, inside, err := element(k, around.scope)
	if err != nil {
		return err
	}
	n.Parent = around.node
	if !k.Empty {
		b.open = append(b.open, opened{name: k.Name, node: len(b.nodes), scope: inside})
	}
	b.nodes = append(b.nodes, n)
	return nil
}

// refused tells why no element may begin here, whatever its tag says.
func (b *builder) refused() api.Errno {
	switch {
	case len(b.nodes) > 0 && !b.inRoot():
		return api.ErrRoot
	case len(b.open) > api.MaxDepth:
		return api.ErrDeep
	case b.isFull():
		return api.ErrFull
	}
	return api.OK
}

func (b *builder) endTag(k api.Tok) error {
	if !b.inRoot() || b.inner().name != k.Name {
		return fault(api.ErrTag, k.At)
	}
	b.open = b.open[:len(b.open)-1]
	return nil
}

func (b *builder) text(k api.Tok) error {
	switch {
	case !b.inRoot() && strings.Trim(k.Text, blanks) == "":
		return nil
	case !b.inRoot():
		return fault(api.ErrRoot, k.At)
	case b.isFull():
		return fault(api.ErrFull, k.At)
	}
	b.nodes = append(b.nodes, api.Node{Text: k.Text, Parent: b.inner().node, At: k.At})
	return nil
}

// end is the document's: all has ended by then, and there was a root.
func (b *builder) end() error {
	switch {
	case b.inRoot():
		return fault(api.ErrTag, b.nodes[b.inner().node].At)
	case len(b.nodes) == 0:
		return fault(api.ErrRoot, api.Pos{Line: 1, Col: 1})
	}
	return nil
}

func fault(e api.Errno, at api.Pos) error { return &api.Fault{At: at, Err: e} }
