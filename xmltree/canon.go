package xmltree

import (
	"strconv"
	"strings"

	"pennant/api"
)

// Canon writes a tree as one text.
func Canon(t api.Tree) (string, api.Errno) {
	if !isRight(t) {
		return "", api.ErrArg
	}
	w := newWriter(t)
	w.element(0, "")
	return w.out.String(), api.OK
}

// A writer writes a right tree, whose nodes stand in the order in which they are written.
type writer struct {
	nodes         []api.Node
	out           strings.Builder
	values, texts *strings.Replacer
}

func newWriter(t api.Tree) *writer {
	return &writer{
		nodes:  t.Nodes,
		values: strings.NewReplacer("&", "&amp;", "<", "&lt;", `"`, "&quot;", "\t", "&#9;", "\n", "&#10;", "\r", "&#13;"),
		texts:  strings.NewReplacer("&", "&amp;", "<", "&lt;", ">", "&gt;", "\r", "&#13;"),
	}
}

// node writes node i and all in it, and tells the number behind. plain is the space that elements without a prefix have here.
func (w *writer) node(i int, plain string) int {
	if isText(w.nodes[i]) {
		w.say(w.texts.Replace(w.nodes[i].Text))
		return i + 1
	}
	return w.element(i, plain)
}

func (w *writer) element(i int, plain string) int {
	n := w.nodes[i]
	name := n.Local
	if n.Space == xmlSpace {
		name = "xml:" + name
	}
	w.say("<", name)
	if n.Space != xmlSpace && n.Space != plain {
		plain = n.Space
		w.attribute("xmlns", plain)
	}
	w.extras(n.Extras)
	next := i + 1
	if !w.isIn(next, i) {
		w.say("/>")
		return next
	}
	w.say(">")
	for w.isIn(next, i) {
		next = w.node(next, plain)
	}
	w.say("</", name, ">")
	return next
}

func (w *writer) isIn(k, parent int) bool {
	return k < len(w.nodes) && w.nodes[k].Parent == parent
}

// extras stand in their spaces' order, so that the spaces' numbers rise with them.
func (w *writer) extras(list []api.Extra) {
	ahead := map[string]string{"": "", xmlSpace: "xml:"}
	own := 0
	for _, x := range list {
		if _, ok := ahead[x.Space]; ok {
			continue
		}
		own++
		prefix := "n" + strconv.Itoa(own)
		ahead[x.Space] = prefix + ":"
		w.attribute("xmlns:"+prefix, x.Space)
	}
	for _, x := range list {
		w.attribute(ahead[x.Space]+x.Local, x.Value)
	}
}

func (w *writer) attribute(name, value string) {
	w.say(" ", name, `="`, w.values.Replace(value), `"`)
}

func (w *writer) say(parts ...string) {
	for _, p := range parts {
		w.out.WriteString(p)
	}
}
