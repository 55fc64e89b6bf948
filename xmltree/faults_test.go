package xmltree

import (
	"strings"
	"testing"

	"pennant/api"
)

// P3.1: end tags.
func TestEndTags(t *testing.T) {
	refusesAt(t, "</a>", api.ErrTag, 1)
	refusesAt(t, " </a><a/>", api.ErrTag, 2)
	refusesAt(t, "<a></a></a>", api.ErrTag, 8)
	refusesAt(t, "<a/></a>", api.ErrTag, 5)
	refusesAt(t, "<a></b>", api.ErrTag, 4)
	refusesAt(t, "<a></A>", api.ErrTag, 4)
	refusesAt(t, "<a><b/></b></a>", api.ErrTag, 8)
	refusesAt(t, "<a><b></b></b>", api.ErrTag, 11)
	refuses(t, "<a>\n<b>é</a></b>", api.ErrTag, place(2, 5))
	// By the name as it is written.
	refusesAt(t, "<p:a xmlns:p='u' xmlns:q='u'></q:a>", api.ErrTag, 30)
	refusesAt(t, "<p:a xmlns:p='u' xmlns='u'></a>", api.ErrTag, 28)
	refusesAt(t, "<a xmlns='u' xmlns:p='u'></p:a>", api.ErrTag, 26)
	refusesAt(t, "<a></a:>", api.ErrTag, 4)
	// What has not ended, the innermost.
	refusesAt(t, "<a><b>", api.ErrTag, 4)
	refusesAt(t, "<a><b></b>", api.ErrTag, 1)
	refusesAt(t, "<a><b/><c>x", api.ErrTag, 8)
	refusesAt(t, "<a><b/><c></c>x", api.ErrTag, 1)
	refuses(t, "\n\n <a>\n\n <b/>", api.ErrTag, place(3, 2))
}

// P3.1: names with colons.
func TestNamesWithColons(t *testing.T) {
	for _, name := range []string{":", ":a", "a:", "::", ":a:", "a::b", "a:b:c", "p:a:b", "p:", "p:1", "p:1a", "p:-", "p:-a", "p:.a", "p::a", "p:a:", ":p:a", "q:a", "P:a", "pp:a", "p-:a", "xmlns:a", "xml:", "xml:1", "xml:a:b", "é:a"} {
		refusesAt(t, "<"+name+" xmlns:p='u'/>", api.ErrPrefix, 1)
		refusesAt(t, "<"+name+" z:b='' xmlns:p='u' z:z:b=''/>", api.ErrPrefix, 1)
		refuses(t, "<a xmlns:p='u'>\n <"+name+">", api.ErrPrefix, place(2, 2))
		if !strings.HasPrefix(name, "xmlns:") {
			refusesAt(t, "<a xmlns:p='u' "+name+"=''/>", api.ErrPrefix, 16)
			refusesAt(t, "<a xmlns:p='u' b='' "+name+"='' z:z=''/>", api.ErrPrefix, 21)
		}
	}
	for _, local := range []string{"a", "_", "é", "\U0010fffd", "a1", "a-", "a.", "A", "Z", "z", "xmlns", "xml", "\u0080", "a\u00b7"} {
		means(t, "<p:"+local+" xmlns:p='u' p:"+local+"='1'/>", elem(-1, "u", local, extra("u", local, "1")))
	}
}

// P3.1: local names of 48 characters, and of 49.
func TestLongLocals(t *testing.T) {
	for _, c := range []string{"a", "é", "€", "\U0001f600"} {
		fits, long := strings.Repeat(c, api.MaxLocal), strings.Repeat(c, api.MaxLocal+1)
		means(t, "<"+fits+" "+fits+"='1' xml:"+fits+"='2' xmlns:p='u' p:"+fits+"='3'><p:"+fits+"/></"+fits+">",
			elem(-1, "", fits, extra("", fits, "1"), extra(xmlSpace, fits, "2"), extra("u", fits, "3")), elem(0, "u", fits))
		refusesAt(t, "<"+long+"/>", api.ErrLong, 1)
		refusesAt(t, "<p:"+long+" xmlns:p='u'/>", api.ErrLong, 1)
		refusesAt(t, "<xml:"+long+"/>", api.ErrLong, 1)
		refuses(t, "<a>\n<b/><"+long+">", api.ErrLong, place(2, 5))
		refusesAt(t, "<a "+long+"=''/>", api.ErrLong, 4)
		refusesAt(t, "<a xmlns:p='u' p:"+long+"=''/>", api.ErrLong, 16)
		// A prefix that isn't declared comes first, of one name.
		refusesAt(t, "<p:"+long+"/>", api.ErrPrefix, 1)
		refusesAt(t, "<a p:"+long+"=''/>", api.ErrPrefix, 4)
		refusesAt(t, "<a:b"+long[len(c)*4:]+":c/>", api.ErrPrefix, 1)
		// Of several attributes the first one.
		refusesAt(t, "<a b='' "+long+"='' p:c=''/>", api.ErrLong, 9)
		refusesAt(t, "<a b='' p:c='' "+long+"=''/>", api.ErrPrefix, 9)
		refusesAt(t, "<a xmlns:q='u' q:"+long+"='' p:c='' "+long+"=''/>", api.ErrLong, 16)
		// The element's name comes ahead of the attributes'.
		refusesAt(t, "<"+long+" p:c=''/>", api.ErrLong, 1)
		refusesAt(t, "<p:c "+long+"=''/>", api.ErrPrefix, 1)
		// Declarations may be of longer prefixes.
		prefix := strings.Repeat(c, api.MaxName-len("xmlns:"))
		means(t, "<"+prefix+":a xmlns:"+prefix+"='u' "+prefix+":b=''/>", elem(-1, "u", "a", extra("u", "b", "")))
	}
}

// P3.1: attributes that are named alike, and those of one space and local name.
func TestSameAttributes(t *testing.T) {
	refusesAt(t, "<a b='1' c='2' b='1' c='2'/>", api.ErrAttr, 16)
	refusesAt(t, "<a b='' c='' d='' c='' b=''/>", api.ErrAttr, 19)
	refusesAt(t, "<a xmlns='u' xmlns='u'/>", api.ErrAttr, 14)
	refusesAt(t, "<a xmlns:p='u' xmlns:p='v'/>", api.ErrAttr, 16)
	refusesAt(t, "<a xmlns:p='' xmlns:p='u'/>", api.ErrAttr, 15)
	refusesAt(t, "<a z:b='' z:b=''/>", api.ErrAttr, 11)
	refusesAt(t, "<a z:='' z:=''/>", api.ErrAttr, 10)
	refuses(t, "<a b=''>\n<c b=''\n b=''/></a>", api.ErrAttr, place(3, 2))
	refusesAt(t, "<a xmlns:p='u' xmlns:q='u' xmlns:r='u' r:c='' p:b='' q:c='' q:b=''/>", api.ErrAttr, 54)
	refusesAt(t, "<a xmlns:p='u' xmlns:q='u' b='' p:b='' c='' q:b=''/>", api.ErrAttr, 45)
	refusesAt(t, "<a xmlns:p='u'><b xmlns:q='u' p:c='' q:c=''/></a>", api.ErrAttr, 38)
	refusesAt(t, "<a p:b='' q:b='' xmlns:p='u' xmlns:q='u'/>", api.ErrAttr, 11)
	refusesAt(t, "<a xmlns:p='&#117;' xmlns:q='u' p:b='' q:b=''/>", api.ErrAttr, 40)
	means(t, "<a b='' B=''/>", elem(-1, "", "a", extra("", "B", ""), extra("", "b", "")))
	means(t, "<a xmlns='u' xmlns:p='u' b='' p:b=''/>", elem(-1, "u", "a", extra("", "b", ""), extra("u", "b", "")))
	means(t, "<a xmlns:p='u' xmlns:q='v' p:b='' q:b='' p:c=''/>", elem(-1, "", "a", extra("u", "b", ""), extra("u", "c", ""), extra("v", "b", "")))
	means(t, "<a xmlns:p='u'><b xmlns:p='v' p:c=''><d p:c=''/></b></a>", elem(-1, "", "a"), elem(0, "", "b", extra("v", "c", "")), elem(1, "", "d", extra("v", "c", "")))
	means(t, "<a xmlns:b='u' b=''/>", elem(-1, "", "a", extra("", "b", "")))
}

// P3.1: 32 elements in one another, and 33.
func TestDepth(t *testing.T) {
	open := strings.Repeat("<a>", api.MaxDepth-1)
	ended := strings.Repeat("</a>", api.MaxDepth-1)
	for _, last := range []string{"<a/>", "<a></a>", "<a>x</a>", "<a>x</a><b></b><c/>"} {
		got, err := Parse(open + last + ended)
		if err != nil || len(got.Nodes) < api.MaxDepth || got.Nodes[api.MaxDepth-1].Parent != api.MaxDepth-2 {
			t.Errorf("%q: %v", last, err)
		}
	}
	for _, deep := range []string{"<a/>", "<a></a>", "<p:a b='' b=''>"} {
		refusesAt(t, open+"<a>"+deep, api.ErrDeep, 3*api.MaxDepth+1)
		refusesAt(t, open+"<b></b><a>x"+deep, api.ErrDeep, 3*api.MaxDepth+9)
	}
	// Those that have ended don't count.
	if _, err := Parse("<a>" + strings.Repeat("<b><c/></b>", 100) + "</a>"); err != nil {
		t.Error(err)
	}
}

// P3.1: 2048 nodes, and 2049.
func TestManyNodes(t *testing.T) {
	const most = api.MaxNodes
	empty := func(n int) string { return strings.Repeat("<b/>", n) }
	mixed := strings.Repeat("x<b/>", most/2-1)
	for doc, n := range map[string]int{
		"<a>" + empty(most-1) + "</a>":       most,
		" <a>" + empty(most-2) + "x</a> ":    most,
		"<a>" + mixed + "x</a>":              most,
		"<a>" + mixed + " </a>":              most,
		"\n<a>" + empty(most-1) + "</a>\t\n": most,
		"<a>" + empty(most-2) + "</a>":       most - 1,
	} {
		got, err := Parse(doc)
		if err != nil || len(got.Nodes) != n {
			t.Errorf("%q: %d, %v", short(doc), len(got.Nodes), err)
		}
	}
	full := "<a>" + empty(most-1)
	for _, s := range []string{"<b/>", "<b>", "x", " ", "<z:b c='' c=''/>", "<![CDATA[x]]>"} {
		refusesAt(t, full+s+"</a>", api.ErrFull, len(full)+1)
		refuses(t, full+"<!--\n-->"+s, api.ErrFull, place(2, 4))
	}
	refusesAt(t, "<a>"+mixed+"x<b/>", api.ErrFull, 3+len(mixed)+2)
	refusesAt(t, "<a>"+mixed+"<b/>x", api.ErrFull, 3+len(mixed)+5)
	refusesAt(t, full+"</a><b/>", api.ErrRoot, len(full)+5)
	refusesAt(t, full+"</a>x", api.ErrRoot, len(full)+5)
	refusesAt(t, full, api.ErrTag, 1)
	refusesAt(t, full+"</b>", api.ErrTag, len(full)+1)
}

// A flaw is something that is wrong with a start tag: what brings it, where in that its fault is, and its number.
type flaw struct {
	attrs string
	col   int
	e     api.Errno
}

// P3.1: of several faults of one start tag, the first in the chapter's order, wherever they stand in the tag.
func TestOrderInATag(t *testing.T) {
	// What stands ahead of the tag, and the fault that it brings by itself.
	ahead := map[string]api.Errno{
		"":                                   api.OK,
		"<r>":                                api.OK,
		"<r>x</r>":                           api.ErrRoot,
		"<r/>":                               api.ErrRoot,
		strings.Repeat("<r>", 32):            api.ErrDeep,
		"<r>" + strings.Repeat("<r/>", 2047): api.ErrFull,
		"<r>" + strings.Repeat("<r/>", 2047) + "</r>":                          api.ErrRoot,
		"<r>" + strings.Repeat("<r/>", 2016) + strings.Repeat("<r>", 31):       api.ErrDeep,
		"<r>" + strings.Repeat("<r/>", 2015) + "x" + strings.Repeat("<r>", 31): api.ErrDeep,
	}
	flaws := []flaw{
		{" b='' b=''", 6, api.ErrAttr},
		{" xmlns:q=''", 1, api.ErrPrefix},
		{"", 0, api.ErrPrefix}, // the element's name
		{" z:c=''", 1, api.ErrPrefix},
		{" m:d='' xmlns:m='u' n:d='' xmlns:n='u'", 20, api.ErrAttr},
	}
	for doc, e := range ahead {
		for set := range 1 << len(flaws) {
			name, attrs := "a", ""
			want, where := e, 0
			for i := len(flaws) - 1; i >= 0; i-- { // the later one is told, the earlier it stands
				if set>>i&1 == 0 {
					continue
				}
				if flaws[i].col == 0 {
					name = "z:a"
				}
				if e == api.OK {
					want, where = flaws[i].e, flaws[i].col
					if where > 0 {
						where += len(attrs)
					}
				}
				attrs += flaws[i].attrs
			}
			col := len(doc) + 1
			if where > 0 {
				col += len("<"+name) + where
			}
			tag := "<" + name + attrs + "/>"
			if want != api.OK {
				refusesAt(t, doc+tag, want, col)
			} else if _, err := Parse(doc + tag); doc == "" && err != nil {
				t.Errorf("%q: %v", tag, err)
			}
		}
	}
}

// P3.1: of faults in several tokens, the first token's.
func TestFirstFaults(t *testing.T) {
	refusesAt(t, "<a><p:b></a></c>", api.ErrPrefix, 4)
	refusesAt(t, "<a></b><p:b/>", api.ErrTag, 4)
	refusesAt(t, "<a/>x</a><b/>", api.ErrRoot, 5)
	refusesAt(t, "<a/></a>x", api.ErrTag, 5)
	refusesAt(t, "<a/><b/>x</c>", api.ErrRoot, 5)
	refusesAt(t, "x</a>", api.ErrRoot, 1)
	refusesAt(t, "</a>x", api.ErrTag, 1)
	refusesAt(t, "<a><b xmlns:p=''><c d='' d=''/>", api.ErrPrefix, 7)
	refusesAt(t, "<a><c d='' d=''/><b xmlns:p=''>", api.ErrAttr, 12)
}
