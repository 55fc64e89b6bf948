package xmltree

import (
	"errors"
	"reflect"
	"slices"
	"strings"
	"testing"

	"pennant/api"
	"pennant/xmltok"
)

const (
	maxInt = int(^uint(0) >> 1)
	minInt = -maxInt - 1
)

func place(line, col int) api.Pos { return api.Pos{Line: line, Col: col} }

func tree(nodes ...api.Node) api.Tree { return api.Tree{Nodes: nodes} }

func elem(parent int, space, local string, extras ...api.Extra) api.Node {
	return api.Node{Space: space, Local: local, Extras: extras, Parent: parent}
}

func words(parent int, s string) api.Node { return api.Node{Text: s, Parent: parent} }

func extra(space, local, value string) api.Extra {
	return api.Extra{Space: space, Local: local, Value: value}
}

// at is a node, or an extra, at a place of the first line.
func at(col int, n api.Node) api.Node {
	n.At = place(1, col)
	return n
}

func xat(col int, x api.Extra) api.Extra {
	x.At = place(1, col)
	return x
}

// evened is a copy of a tree in which lists without elements are alike.
func evened(t api.Tree) api.Tree {
	nodes := append([]api.Node{}, t.Nodes...)
	for i := range nodes {
		nodes[i].Extras = append([]api.Extra{}, nodes[i].Extras...)
	}
	return api.Tree{Nodes: nodes}
}

// placeless is a copy of a tree without its places.
func placeless(t api.Tree) api.Tree {
	t = evened(t)
	for i := range t.Nodes {
		t.Nodes[i].At = api.Pos{}
		for k := range t.Nodes[i].Extras {
			t.Nodes[i].Extras[k].At = api.Pos{}
		}
	}
	return t
}

func same(a, b api.Tree) bool { return reflect.DeepEqual(evened(a), evened(b)) }

func alike(a, b api.Tree) bool { return reflect.DeepEqual(placeless(a), placeless(b)) }

// takes asks that a document has this tree, with its places.
func takes(t *testing.T, doc string, nodes ...api.Node) {
	t.Helper()
	got, err := Parse(doc)
	if err != nil || !same(got, tree(nodes...)) {
		t.Errorf("%q: %+v, %v, not %+v", short(doc), got, err, nodes)
	}
}

// means asks that a document has this tree, but for places.
func means(t *testing.T, doc string, nodes ...api.Node) {
	t.Helper()
	got, err := Parse(doc)
	if err != nil || !alike(got, tree(nodes...)) {
		t.Errorf("%q: %+v, %v, not %+v", short(doc), got, err, nodes)
	}
}

// refuses asks that a document has this fault at this place, and no nodes.
func refuses(t *testing.T, doc string, e api.Errno, where api.Pos) {
	t.Helper()
	got, err := Parse(doc)
	n, place := api.Tell(err)
	var f *api.Fault
	if len(got.Nodes) != 0 || n != e || place != where || !errors.As(err, &f) || !errors.Is(err, e) {
		t.Errorf("%q: %+v, %v, not %d at %v", short(doc), got, err, e, where)
	}
}

// refusesAt is of a fault in the document's one line.
func refusesAt(t *testing.T, doc string, e api.Errno, col int) {
	t.Helper()
	refuses(t, doc, e, place(1, col))
}

func short(doc string) string {
	if len(doc) > 400 {
		return doc[:200] + " .. " + doc[len(doc)-200:]
	}
	return doc
}

// P3.1: the chapter's examples.
func TestExamples(t *testing.T) {
	takes(t, `<a xmlns="u"><b c="1"/>x</a>`, at(1, elem(-1, "u", "a")), at(14, elem(0, "u", "b", xat(17, extra("", "c", "1")))), at(24, words(0, "x")))
	const doc = `<p:a xmlns:p="u" p:b="1" c="2"/>`
	takes(t, doc, at(1, elem(-1, "u", "a", xat(26, extra("", "c", "2")), xat(18, extra("u", "b", "1")))))
	got, _ := Parse(doc)
	if s, e := Canon(got); s != `<a xmlns="u" xmlns:n1="u" c="2" n1:b="1"/>` || e != api.OK {
		t.Errorf("Canon: %s, %d", s, e)
	}
	refusesAt(t, `<a><b></a>`, api.ErrTag, 7)
	refusesAt(t, `<a/><b/>`, api.ErrRoot, 5)
	refusesAt(t, `x<a/>`, api.ErrRoot, 1)
	refusesAt(t, ``, api.ErrRoot, 1)
	refusesAt(t, `<a b="1" b="2"/>`, api.ErrAttr, 10)
	refusesAt(t, `<a xmlns:p="u" xmlns:q="u" p:b="" q:b=""/>`, api.ErrAttr, 35)
	refusesAt(t, `<p:a/>`, api.ErrPrefix, 1)
	refusesAt(t, `<a p:b=""/>`, api.ErrPrefix, 4)
	refusesAt(t, `<a xmlns:p=""/>`, api.ErrPrefix, 4)
	refusesAt(t, `<a:b:c/>`, api.ErrPrefix, 1)
	refusesAt(t, `<a xmlns="http://www.w3.org/2000/xmlns/"/>`, api.ErrPrefix, 4)
	refusesAt(t, `<a>`, api.ErrTag, 1)
}

// P3.1: nodes in the document's order, with their parents and places.
func TestNodesInOrder(t *testing.T) {
	takes(t, "<?xml version='1.0'?>\n<!-- x --><a>\n<b c='1'\n d='2'>é</b>\r\n<![CDATA[<]]>&amp;<e/></a>\n<?p?> ",
		api.Node{Local: "a", Parent: -1, At: place(2, 11)},
		api.Node{Text: "\n", Parent: 0, At: place(2, 14)},
		api.Node{Local: "b", Parent: 0, At: place(3, 1), Extras: []api.Extra{{Local: "c", Value: "1", At: place(3, 4)}, {Local: "d", Value: "2", At: place(4, 2)}}},
		api.Node{Text: "é", Parent: 2, At: place(4, 8)},
		api.Node{Text: "\n<&", Parent: 0, At: place(4, 13)},
		api.Node{Local: "e", Parent: 0, At: place(5, 19)},
	)
	means(t, "<a><b><c/></b><d>x</d></a>", elem(-1, "", "a"), elem(0, "", "b"), elem(1, "", "c"), elem(0, "", "d"), words(3, "x"))
	means(t, "<a>1<b>2</b>3<b/>4</a>", elem(-1, "", "a"), words(0, "1"), elem(0, "", "b"), words(2, "2"), words(0, "3"), elem(0, "", "b"), words(0, "4"))
	means(t, "<a> <b>\t</b>&#13;</a>", elem(-1, "", "a"), words(0, " "), elem(0, "", "b"), words(2, "\t"), words(0, "\r"))
	means(t, "<a><![CDATA[]]></a>", elem(-1, "", "a"))
	means(t, "<a></a>", elem(-1, "", "a"))
	means(t, "<a  />", elem(-1, "", "a"))
	means(t, "<a></a\n>", elem(-1, "", "a"))
}

// P3.1: texts outside of the root.
func TestTextsOutside(t *testing.T) {
	for _, blank := range []string{"", " ", "\t", "\n", "\r", "&#13;", "&#32;&#9;&#x0A;", "<![CDATA[ \n]]>", " <!-- x --> ", "<?p x?>\n", "\r\n \t &#13;<![CDATA[\t]]>"} {
		means(t, blank+"<a/>", elem(-1, "", "a"))
		means(t, "<a/>"+blank, elem(-1, "", "a"))
		means(t, blank+"<a>"+"</a>"+blank, elem(-1, "", "a"))
		refusesAt(t, blank, api.ErrRoot, 1)
	}
	for _, s := range []string{"x", " x", "x ", "  &amp;", "\u00a0", "\u3000", "\u2028", "\u0085", "\ufeff", "&#160;", "<![CDATA[x]]>", " <![CDATA[ .]]> ", "1", "- "} {
		refusesAt(t, s, api.ErrRoot, 1)
		refusesAt(t, s+"<a/>", api.ErrRoot, 1)
		refusesAt(t, "<a/>"+s, api.ErrRoot, 5)
		refusesAt(t, "<a></a>"+s+"<b/>", api.ErrRoot, 8)
		refuses(t, "<!-- -->\n"+s+"<a>", api.ErrRoot, place(1, 9))
	}
	refusesAt(t, "<!--\u00e9-->x", api.ErrRoot, 9)
	refuses(t, "<a/><!-- -->\n<b/>x", api.ErrRoot, place(2, 1))
	for _, s := range []string{"<!-- a -->", "<?p?>", "<?xml version='1.0'?>", "\n\n"} {
		refusesAt(t, s, api.ErrRoot, 1)
	}
}

// P3.1: what is declared holds in its element and below it, up to another declaration of the same.
func TestSpaces(t *testing.T) {
	means(t, "<a xmlns='u' b=''/>", elem(-1, "u", "a", extra("", "b", "")))
	means(t, "<a xmlns:p='u' b='' p:b=''/>", elem(-1, "", "a", extra("", "b", ""), extra("u", "b", "")))
	means(t, "<p:a xmlns:p='u'><b/><p:c/></p:a>", elem(-1, "u", "a"), elem(0, "", "b"), elem(0, "u", "c"))
	means(t, "<a xmlns='u'><b xmlns='v'><c/></b><d/></a>", elem(-1, "u", "a"), elem(0, "v", "b"), elem(1, "v", "c"), elem(0, "u", "d"))
	means(t, "<a xmlns='u'><b xmlns=''><c/></b><d/></a>", elem(-1, "u", "a"), elem(0, "", "b"), elem(1, "", "c"), elem(0, "u", "d"))
	means(t, "<a xmlns=''><b/></a>", elem(-1, "", "a"), elem(0, "", "b"))
	means(t, "<p:a xmlns:p='u'><p:b xmlns:p='v' p:c=''><p:d/></p:b><p:e p:f=''/></p:a>",
		elem(-1, "u", "a"), elem(0, "v", "b", extra("v", "c", "")), elem(1, "v", "d"), elem(0, "u", "e", extra("u", "f", "")))
	means(t, "<a xmlns:p='u'><b xmlns:q='v'><c p:x='1' q:x='2'/></b></a>", elem(-1, "", "a"), elem(0, "", "b"), elem(1, "", "c", extra("u", "x", "1"), extra("v", "x", "2")))
	means(t, "<a xmlns='u' xmlns:p='v'><p:b xmlns:p='w' xmlns='v'><c/></p:b></a>", elem(-1, "u", "a"), elem(0, "w", "b"), elem(1, "v", "c"))
	means(t, "<a p:b='' xmlns:p='u'/>", elem(-1, "", "a", extra("u", "b", "")))
	means(t, "<p:a p:b='' xmlns='v' xmlns:p='u'/>", elem(-1, "u", "a", extra("u", "b", "")))
	means(t, "<a xmlns='&#9;&lt;\t&#13;&#10;\n'/>", elem(-1, "\t< \r\n ", "a"))
	means(t, "<a xmlns='u' xmlns:p='u' p:b='1' b='2'/>", elem(-1, "u", "a", extra("", "b", "2"), extra("u", "b", "1")))
	means(t, "<a xmlns:p='u' xmlns:q='u'><p:b q:c=''/></a>", elem(-1, "", "a"), elem(0, "u", "b", extra("u", "c", "")))
	means(t, "<a xmlns=' u'><b xmlns='U'/></a>", elem(-1, " u", "a"), elem(0, "U", "b"))
	means(t, "<é:ü xmlns:é='€' é:ß=''/>", elem(-1, "€", "ü", extra("€", "ß", "")))
	means(t, "<_:_ xmlns:_='u'/>", elem(-1, "u", "_"))
	means(t, "<p-1.:a-.1 xmlns:p-1.='u'/>", elem(-1, "u", "a-.1"))
	means(t, "<a xmlnsx='1' xmlns-p='2' XMLNS='3' XML='4' xml='5'/>", elem(-1, "", "a", extra("", "XML", "4"), extra("", "XMLNS", "3"), extra("", "xml", "5"), extra("", "xmlns-p", "2"), extra("", "xmlnsx", "1")))
	// What is declared in a sibling, or within, doesn't hold.
	refusesAt(t, "<a><b xmlns:p='u'/><p:c/></a>", api.ErrPrefix, 20)
	refusesAt(t, "<a><b xmlns:p='u'></b><c p:d=''/></a>", api.ErrPrefix, 26)
	refusesAt(t, "<p:a><b xmlns:p='u'/></p:a>", api.ErrPrefix, 1)
	refusesAt(t, "<P:a xmlns:p='u'/>", api.ErrPrefix, 1)
	refusesAt(t, "<XML:a/>", api.ErrPrefix, 1)
	refusesAt(t, "<a XMLNS:p='u' p:b=''/>", api.ErrPrefix, 4)
}

// P3.1: the prefixes xml and xmlns, and the two spaces that are theirs.
func TestOwnPrefixes(t *testing.T) {
	means(t, "<a xml:lang='en'/>", elem(-1, "", "a", extra(xmlSpace, "lang", "en")))
	means(t, "<xml:a><b xmlns='u'><xml:c xml:d=''/></b></xml:a>", elem(-1, xmlSpace, "a"), elem(0, "u", "b"), elem(1, xmlSpace, "c", extra(xmlSpace, "d", "")))
	means(t, "<a xmlns:xml='"+xmlSpace+"' xml:b='1'/>", elem(-1, "", "a", extra(xmlSpace, "b", "1")))
	means(t, "<a xml:xmlns='1' xmlns:p='u' p:xmlns='2' p:xml='3'/>", elem(-1, "", "a", extra(xmlSpace, "xmlns", "1"), extra("u", "xml", "3"), extra("u", "xmlns", "2")))
	means(t, "<xmlns xmlns='u'><xml/></xmlns>", elem(-1, "u", "xmlns"), elem(0, "u", "xml"))
	means(t, "<a xmlns='"+xmlSpace+"/' xmlns:p='http://www.w3.org/2000/xmlns' p:b=''/>", elem(-1, xmlSpace+"/", "a", extra("http://www.w3.org/2000/xmlns", "b", "")))
	for _, s := range []string{
		"xmlns='" + xmlSpace + "'", "xmlns:p='" + xmlSpace + "'", "xmlns:XML='" + xmlSpace + "'", "xmlns:p='http:&#x2f;/www.w3.org/XML/1998/namespace'",
		"xmlns='" + xmlnsSpace + "'", "xmlns:p='" + xmlnsSpace + "'", "xmlns:xml='" + xmlnsSpace + "'", "xmlns:xmlns='" + xmlnsSpace + "'",
		"xmlns:xml='u'", "xmlns:xml=''", "xmlns:xml='" + xmlSpace + " '", "xmlns:xmlns='u'", "xmlns:xmlns=''", "xmlns:xmlns='" + xmlSpace + "'",
		"xmlns:p=''", "xmlns:xmlnsx=''",
		"xmlns:='u'", "xmlns::='u'", "xmlns::p='u'", "xmlns:p:='u'", "xmlns:p:q='u'", "xmlns:1='u'", "xmlns:-p='u'", "xmlns:.p='u'", "xmlns:=''",
	} {
		refusesAt(t, "<a "+s+"/>", api.ErrPrefix, 4)
		refusesAt(t, "<z:a z:b='' "+s+"/>", api.ErrPrefix, 13)
		refusesAt(t, "<a xmlns:q='u' "+s+" xmlns:r=''/>", api.ErrPrefix, 16)
		refuses(t, "<a xmlns='u'>\n<b c='' "+s+"></c>", api.ErrPrefix, place(2, 9))
	}
	refusesAt(t, "<xmlns:a/>", api.ErrPrefix, 1)
	refusesAt(t, "<xmlns:xmlns xmlns='u'/>", api.ErrPrefix, 1)
}

// P3.1: Extras stand in the order of Space, then of Local, by bytes.
func TestOrderOfExtras(t *testing.T) {
	got, err := Parse("<a xmlns:p='v' xmlns:q='U' xmlns:r='é' xmlns:s='u' b='1' q:b='2' p:b='3' r:a='4' a='5' xml:z='6' s:é='7' s:z='8' s:Z='9' s:_='10' s:z1='11' B='12' s:z-='13'/>")
	var list []string
	for _, x := range got.Nodes[0].Extras {
		list = append(list, x.Value)
	}
	if want := strings.Fields("12 5 1 2 6 9 10 8 13 11 7 3 4"); err != nil || !slices.Equal(list, want) {
		t.Errorf("%v, %v, not %v", list, err, want)
	}
}

// P3.1: Kids, of any tree and any number.
func TestKids(t *testing.T) {
	made := tree(elem(-1, "", "a"), elem(0, "", "b"), words(1, "x"), elem(0, "", "c"), words(0, "y"), elem(7, "", "d"), elem(-5, "", "e"), elem(7, "", "f"), elem(8, "", "g"), elem(-1, "", ""))
	for i, want := range map[int][]int{-1: {0, 9}, 0: {1, 3, 4}, 1: {2}, 2: nil, 7: {5, 7}, 8: {8}, -5: {6}, 10: nil, minInt: nil, maxInt: nil} {
		if got := Kids(made, i); !slices.Equal(got, want) {
			t.Errorf("Kids of %d: %v, not %v", i, got, want)
		}
	}
	if got := Kids(api.Tree{}, -1); len(got) != 0 {
		t.Errorf("Kids of no tree: %v", got)
	}
	got, _ := Parse("<a><b>x</b>y<c/></a>")
	if !slices.Equal(Kids(got, 0), []int{1, 3, 4}) || !slices.Equal(Kids(got, 1), []int{2}) || len(Kids(got, 2)) != 0 || !slices.Equal(Kids(got, -1), []int{0}) {
		t.Error(Kids(got, 0), Kids(got, 1), Kids(got, 2), Kids(got, -1))
	}
}

// P3.1: Attr, of any tree and any number.
func TestAttr(t *testing.T) {
	made := tree(elem(-1, "", "a", extra("u", "b", "1"), extra("", "b", "2"), extra("", "b", "3"), extra("u", "b", "4"), extra("", "", "5"), extra("v", "c", "")), api.Node{Text: "x", Extras: []api.Extra{extra("", "d", "6")}})
	for _, c := range []struct {
		i            int
		space, local string
		want         string
		ok           bool
	}{
		{0, "u", "b", "1", true}, {0, "", "b", "2", true}, {0, "", "", "5", true}, {0, "v", "c", "", true}, {1, "", "d", "6", true},
		{0, "v", "b", "", false}, {0, "", "c", "", false}, {0, "", "u", "", false}, {0, "U", "b", "", false}, {0, "", "a", "", false}, {1, "", "b", "", false},
		{-1, "", "b", "", false}, {2, "", "b", "", false}, {maxInt, "u", "b", "", false}, {minInt, "u", "b", "", false},
	} {
		if s, ok := Attr(made, c.i, c.space, c.local); s != c.want || ok != c.ok {
			t.Errorf("Attr of %d, %q, %q: %q, %t", c.i, c.space, c.local, s, ok)
		}
	}
	if s, ok := Attr(api.Tree{}, 0, "", ""); s != "" || ok {
		t.Errorf("of no tree: %q, %t", s, ok)
	}
	got, _ := Parse("<a xmlns:p='u' p:b='1' b='2'/>")
	if s, ok := Attr(got, 0, "u", "b"); s != "1" || !ok {
		t.Errorf("%q, %t", s, ok)
	}
	if s, ok := Attr(got, 0, "", "p"); s != "" || ok {
		t.Errorf("a declaration is told: %q, %t", s, ok)
	}
}

// P3.1: Words, of any tree and any number.
func TestWords(t *testing.T) {
	both := elem(0, "", "b")
	both.Text = "B"
	made := tree(elem(-1, "", "a"), words(0, "1"), both, words(2, "2"), words(0, "3"), words(9, "4"), words(6, "5"), words(-1, "6"), words(maxInt, "7"), words(0, ""), words(7, "8"))
	for i, want := range map[int]string{0: "1B3", 1: "", 2: "2", 6: "5", 7: "8", 9: "4", -1: "", 11: "", 10: "", maxInt: "", minInt: ""} {
		if s := Words(made, i); s != want {
			t.Errorf("Words of %d: %q, not %q", i, s, want)
		}
	}
	if s := Words(api.Tree{}, 0) + Words(api.Tree{}, -1); s != "" {
		t.Errorf("Words of no tree: %q", s)
	}
	got, _ := Parse("<a>x<b>y</b>z<![CDATA[ ]]><c/>\n</a>")
	if Words(got, 0) != "xz \n" || Words(got, 2) != "y" || Words(got, 1) != "" {
		t.Errorf("%q, %q, %q", Words(got, 0), Words(got, 2), Words(got, 1))
	}
}

// P3.4: what is answered is new memory, its spare room too, and no list of it is another's.
func TestNewMemory(t *testing.T) {
	const doc = "<a b='1' c='2' d='3'><e f='4'/>x<g/><h i='5' j='6' k='7'></h></a>"
	want, _ := Parse(doc)
	got, err := Parse(doc)
	if err != nil {
		t.Fatal(err)
	}
	for i := range got.Nodes {
		list := got.Nodes[i].Extras
		list = list[:cap(list)]
		for k := range list {
			list[k] = extra("overwritten", "so", "")
			list[k].At.Col = -i
		}
		for j := range got.Nodes {
			if j > i && !reflect.DeepEqual(got.Nodes[j], want.Nodes[j]) {
				t.Fatalf("list %d writes into %d: %+v", i, j, got.Nodes[j])
			}
			for _, x := range got.Nodes[j].Extras {
				if j <= i && x.At.Col != -j {
					t.Fatalf("list %d writes into %d: %+v", i, j, got.Nodes[j])
				}
			}
		}
	}
	whole := got.Nodes[:cap(got.Nodes)]
	for i := range whole {
		whole[i] = words(99, "overwritten")
	}
	if again, _ := Parse(doc); !reflect.DeepEqual(again, want) {
		t.Errorf("the answer is kept: %+v", again)
	}
	kids := Kids(want, 0)
	for i := range kids[:cap(kids)] {
		kids[:cap(kids)][i] = 99
	}
	if !slices.Equal(Kids(want, 0), []int{1, 2, 3, 4}) {
		t.Error("Kids are kept:", Kids(want, 0))
	}
}

// roomy is a copy of a tree whose lists have spare room, which is filled.
func roomy(t api.Tree) api.Tree {
	nodes := append(make([]api.Node, 0, len(t.Nodes)+3), t.Nodes...)
	for i := range nodes {
		list := append(make([]api.Extra, 0, len(nodes[i].Extras)+3), nodes[i].Extras...)
		fillExtras(list[len(list):cap(list)])
		nodes[i].Extras = list
	}
	spare := nodes[len(nodes):cap(nodes)]
	for i := range spare {
		spare[i] = words(i, "spare")
	}
	return api.Tree{Nodes: nodes}
}

func fillExtras(list []api.Extra) {
	for i := range list {
		list[i] = extra("spare", "spare", "")
	}
}

// P3.4: what is handed in stays, its spare room too; right trees and wrong ones.
func TestHandedInStays(t *testing.T) {
	for _, made := range []api.Tree{
		tree(elem(-1, "u", "a", extra("", "b", "1"), extra("u", "b", "<")), words(0, "x&"), elem(0, "", "c"), words(2, "\r")),
		tree(elem(-1, "u", "a", extra("u", "b", "<"), extra("", "b", "1")), words(0, "x&"), words(0, "y")),
		tree(elem(5, "", "", extra("z", "z", "z"), extra("a", "a", "a"))),
	} {
		given, before := roomy(made), roomy(made)
		Canon(given)
		Kids(given, 0)
		Attr(given, 0, "u", "b")
		Words(given, 0)
		for i := range given.Nodes {
			list, kept := given.Nodes[i].Extras, before.Nodes[i].Extras
			if !reflect.DeepEqual(list[:cap(list)], kept[:cap(kept)]) {
				t.Errorf("extras of %d: %+v, not %+v", i, list[:cap(list)], kept[:cap(kept)])
			}
		}
		if !reflect.DeepEqual(given.Nodes[:cap(given.Nodes)], before.Nodes[:cap(before.Nodes)]) {
			t.Errorf("%+v, not %+v", given.Nodes[:cap(given.Nodes)], before.Nodes[:cap(before.Nodes)])
		}
	}
}

// P3.4: nothing is kept: what is answered doesn't hang on the calls ahead.
func TestTheSameAgain(t *testing.T) {
	const doc = "<p:a xmlns:p='u' xmlns:q='v' q:b='' p:b='' b=''><c/></p:a>"
	want, _ := Parse(doc)
	text, _ := Canon(want)
	for range 50 {
		Parse("<a xmlns='w' xmlns:p='x' p:b=''>")
		Canon(tree(elem(-1, "x", "y", extra("z", "z", ""))))
		got, err := Parse(doc)
		again, e := Canon(got)
		if err != nil || e != api.OK || again != text || !same(got, want) {
			t.Fatalf("%+v, %q", got, again)
		}
	}
}

// P3.1: layer 2's errors are told as there, ahead of all others.
func TestFaultsOfTokens(t *testing.T) {
	for _, doc := range []string{
		"<a", "</a><b c=1>", "x<a>&foo;", "<a b='1' b='2'><!DOCTYPE a>", "<p:a/><!-- -- -->", "<a>\xff", "\x01", "<a/><a/>\n]]>",
		"<a " + strings.Repeat("b", 65) + "=''/>", strings.Repeat(" ", api.MaxDoc+1),
	} {
		_, want := xmltok.Tokens(doc)
		e, where := api.Tell(want)
		if e == api.OK {
			t.Errorf("%q has tokens", short(doc))
		}
		refuses(t, doc, e, where)
	}
	means(t, "<a/>"+strings.Repeat(" ", api.MaxDoc-4), elem(-1, "", "a"))
	refusesAt(t, "<a/>"+strings.Repeat(" ", api.MaxDoc-3), api.ErrLong, 1)
}
