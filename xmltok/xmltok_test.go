package xmltok

import (
	"errors"
	"reflect"
	"strings"
	"testing"

	"pennant/api"
)

func place(line, col int) api.Pos { return api.Pos{Line: line, Col: col} }

func start(line, col int, name string, attrs ...api.Attr) api.Tok {
	return api.Tok{Kind: api.TokStart, Name: name, Attrs: attrs, At: place(line, col)}
}

func empty(line, col int, name string, attrs ...api.Attr) api.Tok {
	t := start(line, col, name, attrs...)
	t.Empty = true
	return t
}

func end(line, col int, name string) api.Tok {
	return api.Tok{Kind: api.TokEnd, Name: name, At: place(line, col)}
}

func text(line, col int, s string) api.Tok {
	return api.Tok{Kind: api.TokText, Text: s, At: place(line, col)}
}

func attr(line, col int, name, value string) api.Attr {
	return api.Attr{Name: name, Value: value, At: place(line, col)}
}

// same holds lists against each other, of which those without elements are alike.
func same(a, b []api.Tok) bool {
	if len(a) != len(b) {
		return false
	}
	for i := range a {
		x, y := a[i], b[i]
		if len(x.Attrs) == 0 && len(y.Attrs) == 0 {
			x.Attrs, y.Attrs = nil, nil
		}
		if !reflect.DeepEqual(x, y) {
			return false
		}
	}
	return true
}

// takes asks that a document has these tokens.
func takes(t *testing.T, doc string, want ...api.Tok) {
	t.Helper()
	list, err := Tokens(doc)
	if err != nil || !same(list, want) {
		t.Errorf("%q: %+v, %v, not %+v", doc, list, err, want)
	}
}

// refuses asks that a document has this fault at this place, and no tokens.
func refuses(t *testing.T, doc string, e api.Errno, line, col int) {
	t.Helper()
	list, err := Tokens(doc)
	n, at := api.Tell(err)
	if len(doc) > 200 {
		doc = doc[:100] + " .. " + doc[len(doc)-50:]
	}
	var f *api.Fault
	if len(list) != 0 || n != e || at != place(line, col) || !errors.As(err, &f) || !errors.Is(err, e) {
		t.Errorf("%q: %+v, %v, not %d at %d:%d", doc, list, err, e, line, col)
	}
}

// P2.1: the chapter's examples.
func TestExamples(t *testing.T) {
	takes(t, `<a b="1" c='x&amp;y'/>`, empty(1, 1, "a", attr(1, 4, "b", "1"), attr(1, 10, "c", "x&y")))
	takes(t, `a&#65;<![CDATA[<]]>b`, text(1, 1, "aA<b"))
	takes(t, "<?xml version=\"1.0\"?><!-- c --><a>\r\nx</a>", start(1, 32, "a"), text(1, 35, "\nx"), end(2, 2, "a"))
	refuses(t, `<a b=1>`, api.ErrMarkup, 1, 6)
	refuses(t, `<a b="<">`, api.ErrMarkup, 1, 7)
	refuses(t, `<a b="1"c="2">`, api.ErrMarkup, 1, 9)
	refuses(t, `<a`, api.ErrMarkup, 1, 3)
	refuses(t, `x &foo;`, api.ErrRef, 1, 3)
	refuses(t, `&#0;`, api.ErrRef, 1, 1)
	refuses(t, `&#xD800;`, api.ErrRef, 1, 1)
	refuses(t, `&`, api.ErrRef, 1, 1)
	refuses(t, `<!DOCTYPE a>`, api.ErrDoctype, 1, 1)
	refuses(t, `<!ELEMENT a>`, api.ErrMarkup, 1, 1)
	refuses(t, `<!-- a -- b -->`, api.ErrMarkup, 1, 8)
	refuses(t, `a]]>b`, api.ErrMarkup, 1, 2)
	refuses(t, "\x01", api.ErrChar, 1, 1)
	refuses(t, `<?xml?>`, api.ErrMarkup, 1, 1)
	refuses(t, `<?XML a?>`, api.ErrMarkup, 1, 1)
}

// P2.1: line ends of 13, of 13 10 and of 10, in texts, sections, values and tags, and the places behind them.
func TestLineEnds(t *testing.T) {
	for _, e := range []string{"\n", "\r", "\r\n"} {
		takes(t, e, text(1, 1, "\n"))
		takes(t, e+"<a/>", text(1, 1, "\n"), empty(2, 1, "a"))
		takes(t, "ab"+e+e+"c<a/>", text(1, 1, "ab\n\nc"), empty(3, 2, "a"))
		takes(t, "<a>"+e+"x"+e+" </a>", start(1, 1, "a"), text(1, 4, "\nx\n "), end(3, 2, "a"))
		takes(t, "<![CDATA["+e+"]]>"+e+"<a/>", text(1, 1, "\n\n"), empty(3, 1, "a"))
		takes(t, "<a"+e+"b"+e+"="+e+"'1"+e+"2'"+e+"c='3'"+e+"/></a"+e+"><d/>",
			empty(1, 1, "a", attr(2, 1, "b", "1 2"), attr(6, 1, "c", "3")), end(7, 3, "a"), empty(8, 2, "d"))
		takes(t, "<!--"+e+"-->"+"<a/>", empty(2, 4, "a"))
		takes(t, "<?x"+e+"y"+e+"?>"+"<a/>", empty(3, 3, "a"))
		takes(t, "<?xml"+e+"version='1.0'"+e+"?>"+e+"<a/>", text(3, 3, "\n"), empty(4, 1, "a"))
		refuses(t, "<a>"+e+"é&", api.ErrRef, 2, 2)
		refuses(t, "<a b='"+e+e+"<'>", api.ErrMarkup, 3, 1)
		refuses(t, "<a"+e, api.ErrMarkup, 2, 1)
		refuses(t, "x"+e+"\x00", api.ErrChar, 2, 1)
		refuses(t, "x"+e+"yz\xff", api.ErrUTF, 2, 3)
	}
	takes(t, "\r\r\n\n\r<a/>", text(1, 1, "\n\n\n\n"), empty(5, 1, "a"))
	takes(t, "\n\r<a/>", text(1, 1, "\n\n"), empty(3, 1, "a"))
	takes(t, "a\r", text(1, 1, "a\n"))
}

// P2.1: a 13 that a reference means is no line's end, and a 10 none of the document's.
func TestLineEndsByReferences(t *testing.T) {
	takes(t, "&#13;\n&#xD;&#10;<a/>", text(1, 1, "\r\n\r\n"), empty(2, 11, "a"))
	takes(t, "<a b='&#13;&#xd;&#10;&#9;\t'/>", empty(1, 1, "a", attr(1, 4, "b", "\r\r\n\t ")))
	takes(t, "&#13;&#10;", text(1, 1, "\r\n"))
}

// P2.1: columns are characters, however many bytes each has.
func TestColumns(t *testing.T) {
	takes(t, "é€\U0001f600<a/>", text(1, 1, "é€\U0001f600"), empty(1, 4, "a"))
	takes(t, "<é ü='€' ö='\U0001f600'/>x<b/>", empty(1, 1, "é", attr(1, 4, "ü", "€"), attr(1, 10, "ö", "\U0001f600")), text(1, 17, "x"), empty(1, 18, "b"))
	takes(t, "\t\t<a/>", text(1, 1, "\t\t"), empty(1, 3, "a"))
	takes(t, "e\u0301<a/>", text(1, 1, "e\u0301"), empty(1, 3, "a"))
	takes(t, "\ufeff<a/>", text(1, 1, "\ufeff"), empty(1, 2, "a"))
	takes(t, "&#128512;<a/>", text(1, 1, "\U0001f600"), empty(1, 10, "a"))
	refuses(t, "<!-- é€\U0001f600 -- -->", api.ErrMarkup, 1, 10)
	refuses(t, "é€\U0001f600&", api.ErrRef, 1, 4)
	refuses(t, "\u0085\u2028&", api.ErrRef, 1, 3)
}

// P2.1: a declaration says nothing, with each of its attributes.
func TestDeclarations(t *testing.T) {
	for _, d := range []string{
		`<?xml version="1.0"?>`,
		`<?xml version='1.0'?>`,
		`<?xml version="1.0" ?>`,
		`<?xml  version = "1.0"  ?>`,
		"<?xml\tversion\t=\t'1.0'\t?>",
		`<?xml version="1.0" encoding="UTF-8"?>`,
		`<?xml version="1.0" encoding='utf-8' ?>`,
		`<?xml version="1.0" encoding="uTf-8"?>`,
		`<?xml version="1.0" standalone="yes"?>`,
		`<?xml version="1.0" standalone='no'?>`,
		`<?xml version="1.0" encoding="UTF-8" standalone="no"?>`,
		`<?xml version="1.0" encoding="Utf-8"  standalone="yes" ?>`,
		`<?xml version="&#49;.0" standalone="ye&#x73;"?>`,
	} {
		takes(t, d)
		takes(t, d+"<a/>", empty(1, 1+len(d), "a"))
		takes(t, d+"x", text(1, 1+len(d), "x"))
		refuses(t, d+d, api.ErrMarkup, 1, 1+len(d))
		refuses(t, " "+d, api.ErrMarkup, 1, 2)
		refuses(t, "\n"+d, api.ErrMarkup, 2, 1)
		refuses(t, "\ufeff"+d, api.ErrMarkup, 1, 2)
		refuses(t, "<!---->"+d, api.ErrMarkup, 1, 8)
	}
}

// P2.1: instructions, comments and sections, whole.
func TestWhatIsNoTag(t *testing.T) {
	for _, s := range []string{
		"<?a?>", "<?a ?>", "<?a  ?>", "<?a\n?>", "<?a ??>", "<?a ? > ?>", "<?a <b & ]]> -- é?>", "<?a:b-c.1 x?>", "<?é?>",
		"<?xm?>", "<?xmll?>", "<?xml-a ?>", "<?xml:a?>", "<?XMLx version='1.0'?>", "<?_xml?>", "<?xm l?>",
		"<!---->", "<!-- -->", "<!--->-->", "<!-->-->", "<!--- -->", "<!-- - - -->", "<!--<a b='&'>]]>&x;<!DOCTYPE>-->", "<!--é->-->",
		"<![CDATA[]]>",
	} {
		takes(t, s)
		after := 1 + len([]rune(s))
		if !strings.Contains(s, "\n") {
			takes(t, "<a>"+s+"<b/></a>", start(1, 1, "a"), empty(1, 3+after, "b"), end(1, 7+after, "a"))
			takes(t, s+"x", text(1, after, "x"))
		}
		takes(t, "x"+s+"y", text(1, 1, "xy"))
		takes(t, s+s+s)
	}
}

// P2.1: what a section holds is text, as it is.
func TestSections(t *testing.T) {
	for _, s := range []string{
		"a", " ", "]", "]]", "]>", "]]]", ">", "<", "<a>", "&amp;", "&", "&#0;", "<!--", "-->", "<![CDATA[", "<?xml?>", "é€", "]] >", "<!DOCTYPE",
	} {
		takes(t, "<![CDATA["+s+"]]>", text(1, 1, s))
		takes(t, "<a><![CDATA["+s+"]]></a>", start(1, 1, "a"), text(1, 4, s), end(1, 4+len("<![CDATA[]]>")+len([]rune(s)), "a"))
	}
	takes(t, "<![CDATA[a]]>]]", text(1, 1, "a]]"))
	takes(t, "<![CDATA[\t\r\n\t]]>", text(1, 1, "\t\n\t"))
	refuses(t, "<![CDATA[a]]>]]>", api.ErrMarkup, 1, 14)
}

// P2.1: texts and sections without a tag between them are one token, at the place of its first character.
func TestJoinedTexts(t *testing.T) {
	takes(t, "")
	takes(t, "a<![CDATA[b]]>c<![CDATA[d]]>", text(1, 1, "abcd"))
	takes(t, "<![CDATA[a]]>b", text(1, 1, "ab"))
	takes(t, "<![CDATA[]]>b", text(1, 13, "b"))
	takes(t, "<![CDATA[]]><![CDATA[]]>\n<![CDATA[b]]>", text(1, 25, "\nb"))
	takes(t, "<![CDATA[]]><![CDATA[b]]>", text(1, 13, "b"))
	takes(t, "<![CDATA[]]>&#98;", text(1, 13, "b"))
	takes(t, "<!--x--> <?y?>b", text(1, 9, " b"))
	takes(t, "a<!--x-->b<?y z?>c<![CDATA[]]>", text(1, 1, "abc"))
	takes(t, "<a/>b<!--x-->c<a/>d", empty(1, 1, "a"), text(1, 5, "bc"), empty(1, 15, "a"), text(1, 19, "d"))
	takes(t, "<a>b</a>c<![CDATA[]]><d></d>", start(1, 1, "a"), text(1, 4, "b"), end(1, 5, "a"), text(1, 9, "c"), start(1, 22, "d"), end(1, 25, "d"))
	takes(t, "]]<![CDATA[>]]>", text(1, 1, "]]>"))
	takes(t, "]]<!-- -->>", text(1, 1, "]]>"))
	takes(t, "]<?x?>]>", text(1, 1, "]]>"))
	takes(t, "]]&gt;]&#93;>&#x5d;]>", text(1, 1, "]]>]]>]]>"))
	takes(t, "] ]> ]] > >", text(1, 1, "] ]> ]] > >"))
	takes(t, "a\"'=/?!>-", text(1, 1, "a\"'=/?!>-"))
}

// P2.1: end tags and start tags, with blanks in all places.
func TestTags(t *testing.T) {
	takes(t, "<a>", start(1, 1, "a"))
	takes(t, "</a>", end(1, 1, "a"))
	takes(t, "</a \t\n>", end(1, 1, "a"))
	takes(t, "<a \t\r>", start(1, 1, "a"))
	takes(t, "<a/>", empty(1, 1, "a"))
	takes(t, "<a />", empty(1, 1, "a"))
	takes(t, "<a b=''>", start(1, 1, "a", attr(1, 4, "b", "")))
	takes(t, `<a b="1"/>`, empty(1, 1, "a", attr(1, 4, "b", "1")))
	takes(t, "<a  b\t=\n\"1\"\r\nc='2' >", start(1, 1, "a", attr(1, 5, "b", "1"), attr(3, 1, "c", "2")))
	takes(t, "<a b='1' b='1' b='2'/>", empty(1, 1, "a", attr(1, 4, "b", "1"), attr(1, 10, "b", "1"), attr(1, 16, "b", "2")))
	takes(t, "</b></c><d></e>", end(1, 1, "b"), end(1, 5, "c"), start(1, 9, "d"), end(1, 12, "e"))
	takes(t, "<xml/><XML xml='xml'/></xml>", empty(1, 1, "xml"), empty(1, 7, "XML", attr(1, 12, "xml", "xml")), end(1, 23, "xml"))
}

// P2.1: values in both marks: what counts as 20, and what stands for itself.
func TestValues(t *testing.T) {
	for in, out := range map[string]string{
		`""`:                                  "",
		`''`:                                  "",
		`"'"`:                                 "'",
		`'"'`:                                 `"`,
		`"''"`:                                "''",
		`" a  b "`:                            " a  b ",
		"\"\t\n\r\r\n.\"":                     "    .",
		`"&#9;&#10;&#13;&#32;"`:               "\t\n\r ",
		`'&lt;&gt;&amp;'`:                     "<>&",
		`'&quot;&apos;'`:                      `"'`,
		`"&quot;&apos;"`:                      `"'`,
		`"]]>"`:                               "]]>",
		`'> / = ? ! --> ?> ]]'`:               "> / = ? ! --> ?> ]]",
		`"é€&#x1F600;&#x10FFFF;"`:             "é€\U0001f600\U0010ffff",
		`"&amp;amp;&amp;#65;"`:                "&amp;&#65;",
		`"` + strings.Repeat("x", 3000) + `"`: strings.Repeat("x", 3000),
	} {
		takes(t, "<a b="+in+"></a>", start(1, 1, "a", attr(1, 4, "b", out)), endBehind("<a b="+in+">", "a"))
	}
}

// endBehind is the end tag that stands behind what is before it.
func endBehind(before, name string) api.Tok {
	before = strings.ReplaceAll(strings.ReplaceAll(before, "\r\n", "\n"), "\r", "\n")
	line := strings.Count(before, "\n")
	last := before[strings.LastIndex(before, "\n")+1:]
	return end(1+line, 1+len([]rune(last)), name)
}

// P2.1: each reference, in texts and in values.
func TestReferences(t *testing.T) {
	for in, out := range map[string]string{
		"&lt;": "<", "&gt;": ">", "&amp;": "&", "&quot;": `"`, "&apos;": "'",
		"&#9;": "\t", "&#10;": "\n", "&#13;": "\r", "&#x9;": "\t", "&#xA;": "\n", "&#xa;": "\n", "&#xD;": "\r", "&#xd;": "\r",
		"&#32;": " ", "&#x20;": " ", "&#65;": "A", "&#x41;": "A", "&#127;": "\x7f", "&#128;": "\u0080", "&#x85;": "\u0085",
		"&#0065;": "A", "&#x00000000000000000000041;": "A", "&#000000000000000000000000065;": "A",
		"&#xD7FF;": "\ud7ff", "&#55295;": "\ud7ff", "&#xE000;": "\ue000", "&#57344;": "\ue000", "&#xFFFD;": "\ufffd", "&#65533;": "\ufffd",
		"&#x10000;": "\U00010000", "&#65536;": "\U00010000", "&#x10FFFF;": "\U0010ffff", "&#x10ffff;": "\U0010ffff", "&#1114111;": "\U0010ffff",
		"&#xaBcD;": "\uabcd", "&#xEF;": "ï", "&#38;#38;": "&#38;", "&#60;": "<", "&#x26;lt;": "&lt;",
	} {
		takes(t, in, text(1, 1, out))
		takes(t, "ab"+in+"cd<e/>", text(1, 1, "ab"+out+"cd"), empty(1, 5+len(in), "e"))
		takes(t, "<a>"+in+"</a>", start(1, 1, "a"), text(1, 4, out), end(1, 4+len(in), "a"))
		takes(t, "<a b='"+in+"x"+in+"'/>", empty(1, 1, "a", attr(1, 4, "b", out+"x"+out)))
	}
}

// P2.1: names, of which characters, and how long.
func TestNames(t *testing.T) {
	for _, n := range []string{
		"a", "z", "A", "Z", "_", ":", "é", "\u0080", "\u00d7", "\u2028", "\ufeff", "\ufffd", "\U0001f600", "\U0010ffff",
		"a0", "a9", "a-", "a.", "_-.:", "a:b", ":a:", "xml:lang", "ab.c-d_e", "é9", "a\u0300",
		strings.Repeat("n", 64), strings.Repeat("é", 64), "a" + strings.Repeat("9", 63), strings.Repeat("\U0001f600", 64),
	} {
		width := len([]rune(n))
		takes(t, "<"+n+"/>x", empty(1, 1, n), text(1, 4+width, "x"))
		takes(t, "</"+n+">x", end(1, 1, n), text(1, 4+width, "x"))
		takes(t, "<a "+n+"='1'/>x", empty(1, 1, "a", attr(1, 4, n, "1")), text(1, 10+width, "x"))
		takes(t, "<?"+n+"?>x", text(1, 5+width, "x"))
	}
	for _, n := range []string{strings.Repeat("n", 65), strings.Repeat("é", 65), strings.Repeat("a", 5000), ":" + strings.Repeat("-", 64)} {
		for before, behind := range map[string]string{"<": ">", "</": ">", "<a ": "='1'>", "<a b='2' ": "='1'>", "<?": "?>", "<?xml ": "='1.0'?>"} {
			refuses(t, before+n+behind, api.ErrLong, 1, 1+len(before))
			refuses(t, before+n, api.ErrLong, 1, 1+len(before))
			refuses(t, before+n+"<", api.ErrLong, 1, 1+len(before))
		}
	}
	for _, n := range []string{"1", "-", ".", "0a", "-a", ".a", "=", " a", "\t", "\n", "", "+", "\"", "'", "&", "(", "@", "[", "`", "{", "\x7f", ">"} {
		for _, before := range []string{"<", "</", "<?"} {
			refuses(t, before+n+">", api.ErrMarkup, 1, 1+len(before))
		}
	}
	for _, c := range []string{"+", "\"", "'", "&", "(", "@", "[", "`", "{", "\x7f", ",", ";", "*", "^", "<", "!", "#"} {
		refuses(t, "<a"+c+"/>", api.ErrMarkup, 1, 3)
		refuses(t, "</a"+c+">", api.ErrMarkup, 1, 4)
		refuses(t, "<a b"+c+"='1'>", api.ErrMarkup, 1, 5)
		refuses(t, "<?a"+c+"?>", api.ErrMarkup, 1, 4)
	}
}

// P2.1: documents as long as may be, and longer ones: that goes ahead of all other faults.
func TestLongDocuments(t *testing.T) {
	x := strings.Repeat("x", api.MaxDoc-7)
	takes(t, "<a>"+x+"</a>", start(1, 1, "a"), text(1, 4, x), end(1, api.MaxDoc-3, "a"))
	refuses(t, "<a>"+x+"</a>\n", api.ErrLong, 1, 1)
	refuses(t, "\x00\xff"+strings.Repeat("<", api.MaxDoc-1), api.ErrLong, 1, 1)
	refuses(t, "\x00\xff"+strings.Repeat("<", api.MaxDoc-2), api.ErrChar, 1, 1)
	takes(t, strings.Repeat("\r\n", api.MaxDoc/2), text(1, 1, strings.Repeat("\n", api.MaxDoc/2)))
	refuses(t, strings.Repeat("\r\n", api.MaxDoc/2)+"\n", api.ErrLong, 1, 1)
	refuses(t, strings.Repeat("é", api.MaxDoc/2)+"&", api.ErrLong, 1, 1)
	refuses(t, strings.Repeat("é", api.MaxDoc/2-1)+"&&", api.ErrRef, 1, api.MaxDoc/2)
	list, err := Tokens(strings.Repeat("<a>", api.MaxDoc/3))
	if err != nil || len(list) != api.MaxDoc/3 || !same(list[len(list)-1:], []api.Tok{start(1, api.MaxDoc-3, "a")}) {
		t.Error("many tags:", len(list), err)
	}
	takes(t, strings.Repeat("&lt;", api.MaxDoc/4), text(1, 1, strings.Repeat("<", api.MaxDoc/4)))
	takes(t, strings.Repeat("<!---->", api.MaxDoc/7))
	takes(t, strings.Repeat("<?a?>", api.MaxDoc/5))
	takes(t, strings.Repeat("a<![CDATA[b]]>", api.MaxDoc/14), text(1, 1, strings.Repeat("ab", api.MaxDoc/14)))
	refuses(t, strings.Repeat("]", api.MaxDoc-1)+">", api.ErrMarkup, 1, api.MaxDoc-2)
	refuses(t, strings.Repeat("&#1114112;", 6000), api.ErrRef, 1, 1)
}
