package xmltree

import (
	"strconv"
	"strings"
	"testing"

	"pennant/api"
)

// writes asks that a tree's one text is this, and that it is the tree's again.
func writes(t *testing.T, want string, nodes ...api.Node) {
	t.Helper()
	s, e := Canon(tree(nodes...))
	if s != want || e != api.OK {
		t.Errorf("%q, %d, not %q", s, e, want)
	}
	if back, err := Parse(s); err != nil || !alike(back, tree(nodes...)) {
		t.Errorf("%q comes back as %+v, %v", s, back, err)
	}
}

// P3.1, P3.2: how elements and texts are written.
func TestCanonOfElements(t *testing.T) {
	writes(t, "<a/>", elem(-1, "", "a"))
	writes(t, "<a>x</a>", elem(-1, "", "a"), words(0, "x"))
	writes(t, "<a><b/></a>", elem(-1, "", "a"), elem(0, "", "b"))
	writes(t, "<a>1<b>2<c/></b>3<d/>4</a>", elem(-1, "", "a"), words(0, "1"), elem(0, "", "b"), words(2, "2"), elem(2, "", "c"), words(0, "3"), elem(0, "", "d"), words(0, "4"))
	writes(t, "<a><b>x</b>y</a>", elem(-1, "", "a"), elem(0, "", "b"), words(1, "x"), words(0, "y"))
	writes(t, "<é-1.>\n</é-1.>", elem(-1, "", "é-1."), words(0, "\n"))
	writes(t, "<xmlns/>", elem(-1, "", "xmlns"))
}

// P3.1, P3.2: the spaces of elements.
func TestCanonOfSpaces(t *testing.T) {
	writes(t, `<a xmlns="u"><b/><c xmlns="v"><d/><e xmlns="u"/></c><f/><g xmlns=""><h/><i xmlns="u"/></g></a>`,
		elem(-1, "u", "a"), elem(0, "u", "b"), elem(0, "v", "c"), elem(2, "v", "d"), elem(2, "u", "e"), elem(0, "u", "f"), elem(0, "", "g"), elem(6, "", "h"), elem(6, "u", "i"))
	writes(t, `<a><b xmlns="u"/><c/></a>`, elem(-1, "", "a"), elem(0, "u", "b"), elem(0, "", "c"))
	writes(t, `<xml:a/>`, elem(-1, xmlSpace, "a"))
	writes(t, `<xml:a><b/><xml:c>x</xml:c><d xmlns="u"><xml:e><f/><g xmlns=""/></xml:e></d></xml:a>`,
		elem(-1, xmlSpace, "a"), elem(0, "", "b"), elem(0, xmlSpace, "c"), words(2, "x"), elem(0, "u", "d"), elem(4, xmlSpace, "e"), elem(5, "u", "f"), elem(5, "", "g"))
	writes(t, `<a xmlns="&amp;&lt;>&quot;'&#9;&#10;&#13; é"><b/></a>`, elem(-1, "&<>\"'\t\n\r é", "a"), elem(0, "&<>\"'\t\n\r é", "b"))
	writes(t, `<a xmlns=" "/>`, elem(-1, " ", "a"))
	writes(t, `<a xmlns="http://www.w3.org/2000/xmlns"/>`, elem(-1, "http://www.w3.org/2000/xmlns", "a"))
}

// P3.1, P3.2: the attributes, and the prefixes of their spaces.
func TestCanonOfExtras(t *testing.T) {
	writes(t, `<a b="1" c="2"/>`, elem(-1, "", "a", extra("", "b", "1"), extra("", "c", "2")))
	writes(t, `<a xmlns="u" xmlns:n1="u" c="2" n1:b="1"/>`, elem(-1, "u", "a", extra("", "c", "2"), extra("u", "b", "1")))
	writes(t, `<a xmlns:n1="a" xmlns:n2="i" xmlns:n3="z" q="0" n1:q="1" n1:r="2" xml:q="3" xml:r="4" n2:q="5" n3:q="6" n3:r="7"/>`,
		elem(-1, "", "a", extra("", "q", "0"), extra("a", "q", "1"), extra("a", "r", "2"), extra(xmlSpace, "q", "3"), extra(xmlSpace, "r", "4"), extra("i", "q", "5"), extra("z", "q", "6"), extra("z", "r", "7")))
	writes(t, `<a xml:q=""/>`, elem(-1, "", "a", extra(xmlSpace, "q", "")))
	writes(t, `<xml:a xmlns:n1="u" n1:b=""><xml:c xmlns:n1="v" n1:b="" n1:d=""/><e xmlns="v" xmlns:n1="u" n1:b=""/></xml:a>`,
		elem(-1, xmlSpace, "a", extra("u", "b", "")), elem(0, xmlSpace, "c", extra("v", "b", ""), extra("v", "d", "")), elem(0, "v", "e", extra("u", "b", "")))
	writes(t, `<a xmlns:n1="&amp;&lt;>&quot;'&#9;&#10;&#13; é" n1:b=""/>`, elem(-1, "", "a", extra("&<>\"'\t\n\r é", "b", "")))
	writes(t, `<a xmlns:n1="u" n1:xmlns=""/>`, elem(-1, "", "a", extra("u", "xmlns", "")))
	var list []api.Extra
	want := `<a`
	for i := range 12 {
		space := string([]byte{byte('a' + i)})
		list = append(list, extra(space, "x", ""))
		want += ` xmlns:n` + strconv.Itoa(i+1) + `="` + space + `"`
	}
	for i := range list {
		want += ` n` + strconv.Itoa(i+1) + `:x=""`
	}
	writes(t, want+"/>", elem(-1, "", "a", list...))
}

// P3.1, P3.2: what is written by names and numbers, in values and in texts.
func TestCanonOfCharacters(t *testing.T) {
	const all = "&<>\"'\t\n\r \u0080é]]>\ufffd\U00010000\U0010ffff&amp;"
	writes(t, "<a b=\"&amp;&lt;>&quot;'&#9;&#10;&#13; \u0080é]]>\ufffd\U00010000\U0010ffff&amp;amp;\">&amp;&lt;&gt;\"'\t\n&#13; \u0080é]]&gt;\ufffd\U00010000\U0010ffff&amp;amp;</a>",
		elem(-1, "", "a", extra("", "b", all)), words(0, all))
}

// P3.1, P3.2: places, and lists that are nil or empty, make no other text.
func TestCanonOfPlaces(t *testing.T) {
	a := api.Node{Local: "a", Parent: -1, At: place(-7, 0), Extras: []api.Extra{{Local: "b", Value: "c", At: place(9, 9)}}}
	x := api.Node{Text: "x", At: place(1, 1), Extras: []api.Extra{}}
	writes(t, `<a b="c">x</a>`, a, x)
}

// P3.1: trees that are right at their edges.
func TestRightTreesAtTheLimits(t *testing.T) {
	fits := strings.Repeat("é", api.MaxLocal)
	writes(t, "<"+fits+" "+fits+"=\"\"/>", elem(-1, "", fits, extra("", fits, "")))
	nodes := []api.Node{elem(-1, "", "a")}
	for i := range api.MaxDepth - 1 {
		nodes = append(nodes, elem(i, "", "a"))
	}
	deep := strings.Repeat("<a>", api.MaxDepth-1)
	writes(t, deep+"<a/>"+strings.Repeat("</a>", api.MaxDepth-1), nodes...)
	writes(t, deep+"<a>x</a>"+strings.Repeat("</a>", api.MaxDepth-1), append(nodes, words(api.MaxDepth-1, "x"))...)
	isWrong(t, append(nodes, elem(api.MaxDepth-1, "", "a"))...)

	nodes = []api.Node{elem(-1, "", "a")}
	for range api.MaxNodes - 1 {
		nodes = append(nodes, elem(0, "", "b"))
	}
	writes(t, "<a>"+strings.Repeat("<b/>", api.MaxNodes-1)+"</a>", nodes...)
	isWrong(t, append(nodes, elem(0, "", "b"))...)
	isWrong(t, append(nodes, words(0, "x"))...)

	// No text is too long to be right, though no document is so long.
	long := strings.Repeat("é", api.MaxDoc)
	s, e := Canon(tree(elem(-1, long, "a", extra("", "b", long), extra(long, "b", "")), words(0, long)))
	if e != api.OK || s != `<a xmlns="`+long+`" xmlns:n1="`+long+`" b="`+long+`" n1:b="">`+long+"</a>" {
		t.Errorf("a long tree: %d bytes, %d", len(s), e)
	}
	if _, err := Parse(s); err == nil {
		t.Error("a long document is taken")
	}
}

// isWrong asks that a tree isn't right.
func isWrong(t *testing.T, nodes ...api.Node) {
	t.Helper()
	if s, e := Canon(tree(nodes...)); s != "" || e != api.ErrArg {
		t.Errorf("%+v: %q, %d, not ErrArg", nodes, short(s), e)
	}
}

// P3.1: trees whose nodes don't stand as those of a document.
func TestWrongOrders(t *testing.T) {
	isWrong(t)
	a, x := elem(-1, "", "a"), words(0, "x")
	isWrong(t, elem(0, "", "a"))
	isWrong(t, elem(-2, "", "a"))
	isWrong(t, elem(1, "", "a"))
	isWrong(t, elem(minInt, "", "a"))
	isWrong(t, elem(maxInt, "", "a"))
	isWrong(t, words(-1, "x"))
	isWrong(t, words(0, "x"))
	isWrong(t, words(-1, " "), elem(-1, "", "a"))
	isWrong(t, words(-1, "x"), elem(0, "", "a"))
	isWrong(t, a, elem(-1, "", "b"))
	isWrong(t, a, words(-1, "x"))
	isWrong(t, a, words(-1, " "))
	isWrong(t, a, elem(-2, "", "b"))
	isWrong(t, a, elem(1, "", "b"))
	isWrong(t, a, elem(2, "", "b"), elem(0, "", "c"))
	isWrong(t, a, elem(maxInt, "", "b"))
	isWrong(t, a, words(minInt, "x"))
	isWrong(t, elem(1, "", "a"), elem(-1, "", "b"))
	isWrong(t, a, x, elem(1, "", "b"))
	isWrong(t, a, x, words(1, "y"))
	isWrong(t, a, x, words(0, "y"))
	isWrong(t, a, elem(0, "", "b"), words(1, "x"), words(1, "y"))
	isWrong(t, a, elem(0, "", "b"), words(1, "x"), words(0, "y"), words(0, "z"))
	isWrong(t, a, elem(0, "", "b"), elem(0, "", "c"), elem(1, "", "d"))
	isWrong(t, a, elem(0, "", "b"), words(0, "x"), words(1, "y"))
	isWrong(t, a, elem(0, "", "b"), words(0, "x"), elem(1, "", "y"))
	writes(t, "<a><b>x</b>y<c/>z</a>", a, elem(0, "", "b"), words(1, "x"), words(0, "y"), elem(0, "", "c"), words(0, "z"))
}

// P3.1: trees whose nodes have what those of a document don't.
func TestWrongNodes(t *testing.T) {
	inner := func(n api.Node) {
		t.Helper()
		isWrong(t, elem(-1, "", "a"), n)
		isWrong(t, elem(-1, "", "a"), elem(0, "", "b"), n, elem(0, "", "c"))
	}
	inner(api.Node{})
	inner(api.Node{Space: "u"})
	inner(api.Node{Text: "x", Space: "u"})
	inner(api.Node{Text: "x", Extras: []api.Extra{extra("", "b", "")}})
	inner(api.Node{Text: "x", Local: "b"})
	inner(api.Node{Text: " ", Local: "b"})
	isWrong(t, api.Node{Text: "x", Local: "b", Parent: -1})
	for _, s := range wrongTexts() {
		inner(words(0, s))
		isWrong(t, elem(-1, s, "a"))
		isWrong(t, elem(-1, "", s))
		isWrong(t, elem(-1, "", "a", extra("", "b", s)))
		isWrong(t, elem(-1, "", "a", extra("", s, "")))
		isWrong(t, elem(-1, "", "a", extra(s, "b", "")))
		inner(elem(0, s, "a"))
		inner(elem(0, "", s))
		inner(elem(0, "", "a", extra("", "b", s)))
	}
	for _, s := range wrongLocals() {
		isWrong(t, elem(-1, "", s))
		isWrong(t, elem(-1, "u", s))
		isWrong(t, elem(-1, xmlSpace, s))
		isWrong(t, elem(-1, "", "a", extra("", s, "")))
		isWrong(t, elem(-1, "", "a", extra("u", s, "")))
		isWrong(t, elem(-1, "", "a", extra(xmlSpace, s, "")))
		if s != "" {
			inner(elem(0, "", s))
		}
	}
}

// wrongTexts are texts of characters that no document says.
func wrongTexts() []string {
	return []string{"\x00", "x\x01", "\x08", "\x0b", "\x0c", "\x0e", "\x1f", "x\x1fy", "\ufffe", "x\uffff", "\xff", "\xc3", "é\xc3", "\xed\xa0\x80", "\xed\xbf\xbf", "\xc0\x80", "\xf4\x90\x80\x80", "x\x80", "\xe2\x82"}
}

// wrongLocals are no local names.
func wrongLocals() []string {
	return []string{"", ":", "a:b", ":a", "a:", "1", "1a", "-", "-a", ".", ".a", "a b", " a", "a ", "a\n", "a/", "a>", "a=", "a'", `a"`, "a&", "&lt;", "a<b", "a\tb", "!", "?", "a@", "a[", "a`", "a{", "a+", "a,", "a;", "a\x7f", strings.Repeat("a", api.MaxLocal+1), strings.Repeat("é", api.MaxLocal+1)}
}

// P3.1: spaces and attributes that no document has.
func TestWrongSpacesAndExtras(t *testing.T) {
	isWrong(t, elem(-1, xmlnsSpace, "a"))
	isWrong(t, elem(-1, "", "a"), elem(0, xmlnsSpace, "b"))
	isWrong(t, elem(-1, "", "a", extra(xmlnsSpace, "b", "")))
	isWrong(t, elem(-1, "", "a", extra(xmlnsSpace, "xmlns", "")))
	isWrong(t, elem(-1, "", "a", extra("", "xmlns", "")))
	isWrong(t, elem(-1, "u", "a", extra("", "xmlns", "u")))
	isWrong(t, elem(-1, "", "a", extra("", "c", ""), extra("", "b", "")))
	isWrong(t, elem(-1, "", "a", extra("", "b", ""), extra("", "b", "")))
	isWrong(t, elem(-1, "", "a", extra("", "b", "1"), extra("", "b", "2")))
	isWrong(t, elem(-1, "", "a", extra("u", "b", ""), extra("", "b", "")))
	isWrong(t, elem(-1, "", "a", extra("v", "b", ""), extra("u", "c", "")))
	isWrong(t, elem(-1, "", "a", extra("u", "b", ""), extra("u", "b", "")))
	isWrong(t, elem(-1, "", "a", extra("", "a", ""), extra("u", "b", ""), extra("u", "c", ""), extra("u", "b", "")))
	isWrong(t, elem(-1, "", "a", extra("", "a", ""), extra("", "B", "")))
	isWrong(t, elem(-1, "", "a", extra("é", "b", ""), extra("z", "b", "")))
	isWrong(t, elem(-1, "", "a"), elem(0, "", "b", extra("", "d", ""), extra("", "c", "")))
	writes(t, `<a xmlns:n1="z" xmlns:n2="é" B="" a="" n1:b="" n2:b=""/>`, elem(-1, "", "a", extra("", "B", ""), extra("", "a", ""), extra("z", "b", ""), extra("é", "b", "")))
}
