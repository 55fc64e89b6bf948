package xmltree

import (
	"maps"
	"math/rand"
	"regexp"
	"slices"
	"strconv"
	"strings"
	"testing"

	"pennant/api"
	"pennant/xmltok"
)

// A second reader, by the tokens alone: for each one it looks back over all the tags that are open, and asks the chapter's rules one behind the other.
type second struct {
	nodes []api.Node
	open  []api.Tok
	at    []int // the nodes of those that are open
}

var shape = regexp.MustCompile(`^(?:([^:]+):([^:0-9.\-][^:]*)|([^:]+))$`)

// spaceOf tells the space of a prefix (or of none) behind the declarations of these tags, the last one the nearest.
func spaceOf(tags []api.Tok, prefix string) (string, bool) {
	name := "xmlns:" + prefix
	if prefix == "" {
		name = "xmlns"
	}
	for i := len(tags) - 1; i >= 0; i-- {
		for _, a := range tags[i].Attrs {
			if a.Name == name {
				return a.Value, true
			}
		}
	}
	if prefix == "xml" {
		return "http://www.w3.org/XML/1998/namespace", true
	}
	return "", prefix == ""
}

func (s *second) resolve(tags []api.Tok, name string, attribute bool) (string, string, api.Errno) {
	m := shape.FindStringSubmatch(name)
	if m == nil {
		return "", "", api.ErrPrefix
	}
	local := m[2] + m[3]
	space, ok := spaceOf(tags, m[1])
	if !ok {
		return "", "", api.ErrPrefix
	}
	if attribute && m[1] == "" {
		space = ""
	}
	if len([]rune(local)) > 48 {
		return "", "", api.ErrLong
	}
	return space, local, api.OK
}

func wrongDeclaration(a api.Attr) bool {
	const xml, xmlns = "http://www.w3.org/XML/1998/namespace", "http://www.w3.org/2000/xmlns/"
	if a.Name == "xmlns" {
		return a.Value == xml || a.Value == xmlns
	}
	m := shape.FindStringSubmatch(a.Name)
	if m == nil {
		return true
	}
	prefix := m[2]
	return prefix == "xmlns" || prefix == "xml" && a.Value != xml || a.Value == xml && prefix != "xml" || a.Value == xmlns || a.Value == ""
}

func (s *second) start(k api.Tok) (api.Errno, api.Pos) {
	if len(s.nodes) > 0 && len(s.open) == 0 {
		return api.ErrRoot, k.At
	}
	if len(s.open)+1 > 32 {
		return api.ErrDeep, k.At
	}
	if len(s.nodes) >= 2048 {
		return api.ErrFull, k.At
	}
	for i, a := range k.Attrs {
		for _, b := range k.Attrs[:i] {
			if a.Name == b.Name {
				return api.ErrAttr, a.At
			}
		}
	}
	var others []api.Attr
	for _, a := range k.Attrs {
		if a.Name != "xmlns" && !strings.HasPrefix(a.Name, "xmlns:") {
			others = append(others, a)
		} else if wrongDeclaration(a) {
			return api.ErrPrefix, a.At
		}
	}
	tags := append(slices.Clone(s.open), k)
	n := api.Node{Parent: -1, At: k.At}
	if len(s.at) > 0 {
		n.Parent = s.at[len(s.at)-1]
	}
	var e api.Errno
	if n.Space, n.Local, e = s.resolve(tags, k.Name, false); e != api.OK {
		return e, k.At
	}
	for _, a := range others {
		space, local, e := s.resolve(tags, a.Name, true)
		if e != api.OK {
			return e, a.At
		}
		n.Extras = append(n.Extras, api.Extra{Space: space, Local: local, Value: a.Value, At: a.At})
	}
	for i, x := range n.Extras {
		for _, y := range n.Extras[:i] {
			if x.Space == y.Space && x.Local == y.Local {
				return api.ErrAttr, x.At
			}
		}
	}
	slices.SortFunc(n.Extras, func(x, y api.Extra) int {
		return strings.Compare(x.Space+"\x00"+x.Local, y.Space+"\x00"+y.Local)
	})
	if !k.Empty {
		s.open, s.at = tags, append(s.at, len(s.nodes))
	}
	s.nodes = append(s.nodes, n)
	return api.OK, api.Pos{}
}

func (s *second) token(k api.Tok) (api.Errno, api.Pos) {
	last := len(s.open) - 1
	switch {
	case k.Kind == api.TokStart:
		return s.start(k)
	case k.Kind == api.TokEnd && (last < 0 || s.open[last].Name != k.Name):
		return api.ErrTag, k.At
	case k.Kind == api.TokEnd:
		s.open, s.at = s.open[:last], s.at[:last]
	case last < 0 && strings.Trim(k.Text, "\t\n\r ") != "":
		return api.ErrRoot, k.At
	case last >= 0 && len(s.nodes) >= 2048:
		return api.ErrFull, k.At
	case last >= 0:
		s.nodes = append(s.nodes, api.Node{Text: k.Text, Parent: s.at[last], At: k.At})
	}
	return api.OK, api.Pos{}
}

func secondTells(doc string) (api.Tree, api.Errno, api.Pos) {
	list, err := xmltok.Tokens(doc)
	if err != nil {
		e, where := api.Tell(err)
		return api.Tree{}, e, where
	}
	s := &second{}
	for _, k := range list {
		if e, where := s.token(k); e != api.OK {
			return api.Tree{}, e, where
		}
	}
	if len(s.open) > 0 {
		return api.Tree{}, api.ErrTag, s.open[len(s.open)-1].At
	}
	if len(s.nodes) == 0 {
		return api.Tree{}, api.ErrRoot, api.Pos{Line: 1, Col: 1}
	}
	return api.Tree{Nodes: s.nodes}, api.OK, api.Pos{}
}

// A gardener grows documents and trees by dice that fall alike in each run.
type gardener struct{ dice *rand.Rand }

func newGardener(seed int64) gardener { return gardener{rand.New(rand.NewSource(seed))} }

func (g gardener) of(list ...string) string { return list[g.dice.Intn(len(list))] }

func (g gardener) oneIn(n int) bool { return g.dice.Intn(n) == 0 }

// name is of a tag or an attribute; seldom one that may be wrong.
func (g gardener) name() string {
	if g.oneIn(30) {
		return g.of("p:1", "p:-a", "p:.", ":a", "p:", ":", "p:a:b", "z:a", "p::a", "xml:", "xmlnsx", "p:"+strings.Repeat("é", 49), strings.Repeat("a", 49), "z:"+strings.Repeat("a", 49))
	}
	return g.of("a", "b", "é", "p:a", "p:b", "q:a", "q:b", "xml:a", "xml:b", "p:xmlns", strings.Repeat("é", 48))
}

func (g gardener) declaration() string {
	if g.oneIn(20) {
		return g.of("xmlns:", "xmlns::", "xmlns:p:q", "xmlns:1", "xmlns:xmlns", "xmlns:xml", "xmlns:-") + "='u'"
	}
	value := g.of("u", "u", "u", "v", "v", "", " ")
	if g.oneIn(20) {
		value = g.of("http://www.w3.org/XML/1998/namespace", "http://www.w3.org/2000/xmlns/")
	}
	name := g.of("xmlns", "xmlns:p", "xmlns:q", "xmlns:r")
	if value == "" && !g.oneIn(20) {
		name = "xmlns"
	}
	if g.oneIn(10) {
		name, value = "xmlns:xml", "http://www.w3.org/XML/1998/namespace"
	}
	return name + "='" + value + "'"
}

func (g gardener) tag() string {
	var b strings.Builder
	b.WriteString(g.name())
	for g.oneIn(2) {
		b.WriteString(g.of(" ", "\n") + g.declaration())
	}
	for g.oneIn(2) {
		b.WriteString(" " + g.name() + "='" + g.of("", "1", "&lt;&#13;") + "'")
	}
	if g.oneIn(3) {
		b.WriteString(g.of(" ", "\n") + g.declaration())
	}
	return b.String()
}

func (g gardener) inside(deep int) string {
	var b strings.Builder
	for range g.dice.Intn(4) {
		switch {
		case deep > 0 && !g.oneIn(3):
			b.WriteString(g.document(deep - 1))
		default:
			b.WriteString(g.of(" ", "x", "\n", "&amp;", "<!-- -->", "<?p?>", "<![CDATA[y]]>"))
		}
	}
	return b.String()
}

// document is an element with what is in it, seldom one that doesn't end as it must.
func (g gardener) document(deep int) string {
	tag := g.tag()
	name := strings.FieldsFunc(tag, func(c rune) bool { return c == ' ' || c == '\n' })[0]
	switch {
	case g.oneIn(4):
		return "<" + tag + "/>"
	case g.oneIn(60):
		return "<" + tag + ">" + g.inside(deep) + g.of("", "</b>", "</p:a>", "</a></a>", "<a>")
	}
	return "<" + tag + ">" + g.inside(deep) + "</" + name + ">"
}

// P3.1: of many documents, right ones and wrong ones, the trees, the faults and the places are those that the rules tell one by one; P3.2: the right ones' trees come back by their text.
func TestAsTheRulesTell(t *testing.T) {
	g := newGardener(31)
	met := map[api.Errno]int{}
	for range 60000 {
		doc := g.document(g.dice.Intn(4))
		if g.oneIn(4) {
			doc = "<r xmlns:p='u' xmlns:q='v'>" + doc + "</r>"
		}
		if g.oneIn(20) {
			doc = g.of(" ", "x", "</a>", "\n<!-- -->") + doc
		}
		if g.oneIn(20) {
			doc += g.of(" ", "x", "</a>", "<a/>", "\n<!-- -->")
		}
		want, n, where := secondTells(doc)
		got, err := Parse(doc)
		e, place := api.Tell(err)
		if e != n || place != where || !same(got, want) {
			t.Fatalf("%q: %+v, %v, not %+v, %d at %v", doc, got, err, want, n, where)
		}
		met[e]++
		if e == api.OK {
			comesBack(t, got)
		}
	}
	for _, e := range []api.Errno{api.OK, api.ErrTag, api.ErrAttr, api.ErrPrefix, api.ErrRoot, api.ErrLong} {
		if met[e] < 200 {
			t.Errorf("too few documents of %d: %v", e, met)
		}
	}
}

// comesBack asks that a right tree is its text's, and the text the tree's that it is of.
func comesBack(t *testing.T, made api.Tree) {
	t.Helper()
	text, e := Canon(made)
	back, err := Parse(text)
	again, f := Canon(back)
	if e != api.OK || err != nil || f != api.OK || again != text || !alike(back, made) {
		t.Fatalf("%+v: %q, %d; %+v, %v; %q, %d", made, text, e, back, err, again, f)
	}
}

// tree is a right one.
func (g gardener) tree() api.Tree {
	var nodes []api.Node
	var grow func(parent, deep int)
	grow = func(parent, deep int) {
		at := len(nodes)
		nodes = append(nodes, elem(parent, g.space(), g.of("a", "b", "é.1-", "xmlns"), g.extras()...))
		text := false
		for range g.dice.Intn(4) {
			if !text && g.oneIn(2) {
				nodes = append(nodes, words(at, g.of("x", " ", "\r", "]]>", "&lt;", "<é\n")))
				text = true
			} else if deep > 0 {
				grow(at, deep-1)
				text = false
			}
		}
	}
	grow(-1, g.dice.Intn(4))
	return api.Tree{Nodes: nodes}
}

func (g gardener) space() string {
	return g.of("", "", "u", "u", "v", "é&\n", "http://www.w3.org/XML/1998/namespace")
}

func (g gardener) extras() []api.Extra {
	met := map[[2]string]bool{}
	var list []api.Extra
	for g.oneIn(2) {
		x := extra(g.space(), g.of("a", "b", "c", "é"), g.of("", "1", "<\"'&\t\n\r>"))
		if key := [2]string{x.Space, x.Local}; !met[key] {
			met[key] = true
			list = append(list, x)
		}
	}
	slices.SortFunc(list, func(x, y api.Extra) int {
		if c := strings.Compare(x.Space, y.Space); c != 0 {
			return c
		}
		return strings.Compare(x.Local, y.Local)
	})
	return list
}

// escaped writes a text by its characters' numbers, but for letters.
func escaped(s string) string {
	var b strings.Builder
	for i, c := range s {
		if c == 0xFFFD && s[i] != 0xEF {
			b.WriteByte(s[i]) // no character: as it is
		} else if c >= 'a' && c <= 'z' || c > 0x7F {
			b.WriteRune(c)
		} else {
			b.WriteString("&#" + strconv.Itoa(int(c)) + ";")
		}
	}
	return b.String()
}

// dressed writes a tree with prefixes by the dice, its attributes in any order, its spaces declared where it comes about; of a tree that isn't right anything.
func (g gardener) dressed(t api.Tree) string {
	var b strings.Builder
	g.dress(&b, t, 0, map[string]string{"": "", "xml": "http://www.w3.org/XML/1998/namespace"}, 40)
	return b.String()
}

// dress goes down by at most left nodes: there are trees by hand that stand in themselves.
func (g gardener) dress(b *strings.Builder, t api.Tree, i int, around map[string]string, left int) {
	if left == 0 || i >= len(t.Nodes) {
		return
	}
	n := t.Nodes[i]
	if n.Local == "" {
		b.WriteString(escaped(n.Text))
		return
	}
	d := &dress{g: g, scope: maps.Clone(around), held: map[string]bool{"xml": true}}
	name := d.prefix(n.Space, true) + n.Local
	for _, x := range n.Extras {
		d.attrs = append(d.attrs, d.prefix(x.Space, false)+x.Local+"="+g.marked(x.Value))
	}
	if g.oneIn(5) {
		d.declare("unused", "u"+strconv.Itoa(i))
	}
	g.dice.Shuffle(len(d.attrs), func(i, k int) { d.attrs[i], d.attrs[k] = d.attrs[k], d.attrs[i] })
	b.WriteString("<" + name)
	for _, a := range d.attrs {
		b.WriteString(g.of(" ", "\n") + a)
	}
	b.WriteString(">")
	for k, kid := range t.Nodes {
		if kid.Parent == i {
			g.dress(b, t, k, d.scope, left-1)
		}
	}
	b.WriteString("</" + name + ">")
}

// A dress is what prefixes mean in an element, which of them it uses, so that they can't be declared otherwise in it, and its attributes.
type dress struct {
	g     gardener
	scope map[string]string
	held  map[string]bool
	attrs []string
}

// prefix brings one of a space, with its colon; none may be that of an element, and of an attribute without a space.
func (d *dress) prefix(space string, ofElement bool) string {
	if !ofElement && space == "" {
		return ""
	}
	p := d.fitting(space, ofElement)
	d.held[p] = true
	if p == "" {
		return ""
	}
	return p + ":"
}

func (d *dress) fitting(space string, ofElement bool) string {
	var fit []string
	for p, s := range d.scope {
		if s == space && (ofElement || p != "") {
			fit = append(fit, p)
		}
	}
	slices.Sort(fit)
	if len(fit) > 0 && (!d.g.oneIn(3) || space == "http://www.w3.org/XML/1998/namespace") {
		return d.g.of(fit...)
	}
	p := ""
	if !ofElement || space != "" && d.g.oneIn(2) {
		for p == "" || d.held[p] {
			p = d.g.of("p", "q", "n1", "n2", "é", "a-", "x"+strconv.Itoa(d.g.dice.Intn(100)))
		}
	}
	d.declare(p, space)
	return p
}

func (d *dress) declare(prefix, space string) {
	d.scope[prefix] = space
	name := "xmlns:" + prefix
	if prefix == "" {
		name = "xmlns"
	}
	d.attrs = append(d.attrs, name+"="+d.g.marked(space))
}

func (g gardener) marked(value string) string {
	mark := g.of("'", `"`)
	return mark + escaped(value) + mark
}

// P3.3: whatever the prefixes are named, and however the attributes stand, the tree stays, but for places. P3.2: and it comes back by its text.
func TestOtherPrefixesAndOrders(t *testing.T) {
	g := newGardener(33)
	for range 8000 {
		made := g.tree()
		comesBack(t, made)
		for range 3 {
			doc := g.dressed(made)
			got, err := Parse(doc)
			if err != nil || !alike(got, made) {
				t.Fatalf("%q: %+v, %v, not %+v", doc, got, err, made)
			}
		}
	}
	for _, pair := range [][2]string{
		{"<p:a xmlns:p='u' xmlns:q='v' p:b='1' q:b='2' b='3'><q:c/></p:a>", "<q:a b='3' p:b='2' xmlns:q='u' q:b='1' xmlns:p='v'><p:c/></q:a>"},
		{"<a xmlns='u'><b c='1' d='2'/></a>", "<x:a xmlns:x='u'><x:b d='2' c='1'/></x:a>"},
		{"<a xmlns='u'><b xmlns=''/></a>", "<x:a xmlns:x='u'><b/></x:a>"},
		{"<a><b xmlns:p='u' p:c=''/></a>", "<a xmlns:p='v' xmlns:q='u'><b q:c=''/></a>"},
	} {
		a, e := Parse(pair[0])
		b, f := Parse(pair[1])
		if e != nil || f != nil || !alike(a, b) {
			t.Errorf("%q: %+v, %v; %q: %+v, %v", pair[0], a, e, pair[1], b, f)
		}
	}
}

// tellable tells whether Parse tells a tree of a document that is written for it: that is what makes it right.
func (g gardener) tellable(made api.Tree) bool {
	got, err := Parse(g.dressed(made))
	return err == nil && alike(got, made)
}

// P3.1: of all small orders of elements and texts Canon takes just those that Parse tells of a document.
func TestAllSmallOrders(t *testing.T) {
	g := newGardener(34)
	right := 0
	const n = 5
	var lay func(nodes []api.Node)
	lay = func(nodes []api.Node) {
		made := api.Tree{Nodes: nodes}
		_, e := Canon(made)
		if want := g.tellable(made); want != (e == api.OK) || e != api.OK && e != api.ErrArg {
			t.Fatalf("%+v: %d, not %t", made, e, want)
		}
		if e == api.OK {
			right++
		}
		if len(nodes) == n-1 {
			return
		}
		for parent := -1; parent < n; parent++ {
			lay(append(slices.Clone(nodes), elem(parent, "", "a")))
			lay(append(slices.Clone(nodes), words(parent, "x")))
		}
	}
	lay(nil)
	// Of one node 1, of two 2, of three 5, of four 18.
	if right != 26 {
		t.Errorf("%d right orders", right)
	}
}

// bent is a tree in which something is changed, right or wrong.
func (g gardener) bent(t api.Tree) api.Tree {
	t = evened(t)
	i, k := g.dice.Intn(len(t.Nodes)), g.dice.Intn(len(t.Nodes))
	n := &t.Nodes[i]
	switch g.dice.Intn(9) {
	case 0:
		n.Parent = g.dice.Intn(len(t.Nodes)+3) - 2
	case 1:
		n.Space = g.of(append(wrongTexts(), "", "u", "v", "w", " ", xmlSpace, xmlnsSpace)...)
	case 2:
		n.Local = g.of(append(wrongLocals(), "a", "é", "_", "xmlns", "\ufffe", "a\xff", strings.Repeat("é", 48))...)
	case 3:
		n.Text = g.of(append(wrongTexts(), "", "x", " ", "\r", "\ufffd", "\U0010ffff")...)
	case 4:
		t.Nodes[i], t.Nodes[k] = t.Nodes[k], t.Nodes[i]
	case 5:
		t.Nodes = slices.Delete(t.Nodes, i, i+1)
	case 6:
		t.Nodes = slices.Insert(t.Nodes, i, t.Nodes[k])
	case 7:
		n.Extras = append(n.Extras, g.bentExtra())
	default:
		if len(n.Extras) > 0 {
			g.bendExtras(n.Extras)
		}
	}
	return t
}

func (g gardener) bentExtra() api.Extra {
	x := extra(g.of("", "z", "é", "u", "zz"), g.of("a", "z", "é"), "")
	switch g.dice.Intn(6) {
	case 0:
		x.Space = g.of(append(wrongTexts(), xmlnsSpace)...)
	case 1:
		x.Local = g.of(append(wrongLocals(), "xmlns")...)
	case 2:
		x.Value = g.of(append(wrongTexts(), "\r")...)
	}
	return x
}

func (g gardener) bendExtras(list []api.Extra) {
	i, k := g.dice.Intn(len(list)), g.dice.Intn(len(list))
	switch g.dice.Intn(3) {
	case 0:
		list[i], list[k] = list[k], list[i]
	case 1:
		list[i] = list[k]
	default:
		list[i] = g.bentExtra()
	}
}

// P3.1: Canon takes just those trees that Parse tells of a document, however they are changed. P3.2: and those come back.
func TestBentTrees(t *testing.T) {
	g := newGardener(35)
	right, wrong := 0, 0
	for range 40000 {
		made := g.tree()
		for made = g.bent(made); g.oneIn(3) && len(made.Nodes) > 0; {
			made = g.bent(made)
		}
		s, e := Canon(made)
		if want := g.tellable(made); want != (e == api.OK) || e != api.OK && (e != api.ErrArg || s != "") {
			t.Fatalf("%+v: %q, %d, not %t", made, s, e, want)
		}
		if e == api.OK {
			right++
			comesBack(t, made)
		} else {
			wrong++
		}
	}
	if right < 5000 || wrong < 20000 {
		t.Error("too few of one sort:", right, wrong)
	}
}

// P3.1: no call panics, whatever the bytes, the trees and the numbers are.
func TestAnything(t *testing.T) {
	g := newGardener(36)
	pieces := []string{"<a", "<p:b", "</a>", "</", "<", ">", "/>", " ", "=", "'", "xmlns", "xmlns:", ":", "x", "&lt;", "\x00", "\xff", "é", "\r", " xmlns:p='u'", "<c p:d='1'>", "<!-- -->", "]]>"}
	for range 40000 {
		doc := ""
		for range g.dice.Intn(12) {
			doc += g.of(pieces...)
		}
		got, err := Parse(doc)
		if (err == nil) != (len(got.Nodes) > 0) {
			t.Fatalf("%q: %+v, %v", doc, got, err)
		}
	}
	numbers := []int{minInt, -2, -1, 0, 1, 2, 3, maxInt}
	for range 20000 {
		var made api.Tree
		for range g.dice.Intn(4) {
			n := elem(numbers[g.dice.Intn(len(numbers))], g.of("", "u", "\xff"), g.of("", "a", "\xff"), extra(g.of("", "u"), g.of("", "a"), g.of("", "\x00")))
			n.Text = g.of("", "x", "\xff")
			made.Nodes = append(made.Nodes, n)
		}
		Canon(made)
		for _, i := range numbers {
			Attr(made, i, "", "a")
			Words(made, i)
			for _, k := range Kids(made, i) {
				if made.Nodes[k].Parent != i {
					t.Fatalf("%d is no kid of %d: %+v", k, i, made)
				}
			}
		}
	}
}
