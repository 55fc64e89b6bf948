package xmltok

import (
	"math/rand"
	"reflect"
	"regexp"
	"strings"
	"testing"

	"pennant/api"
)

// An outcome is what a document brings: tokens, or a fault's number and place.
type outcome struct {
	list []api.Tok
	e    api.Errno
	at   api.Pos
}

// A second reader, made of patterns: of each part the longest beginning that may still become one, behind which the fault lies.
type patterns struct {
	startTag, startBegun, inValue, attr, endTag, endBegun, told, toldBegun, ref, declares, declared, declaredBegun, inDeclared *regexp.Regexp
}

func newPatterns() patterns {
	const (
		b    = `[ \t\n]`
		n    = `[A-Za-z_:\x{80}-\x{10FFFF}][A-Za-z0-9_:.\-\x{80}-\x{10FFFF}]*`
		ref  = `&(?:lt|gt|amp|quot|apos|#65|#x41|#13);`
		open = `(?:"(?:[^<&"]|` + ref + `)*|'(?:[^<&']|` + ref + `)*)`
		val  = `(?:"(?:[^<&"]|` + ref + `)*"|'(?:[^<&']|` + ref + `)*')`
		att  = b + `+(` + n + `)` + b + `*=` + b + `*(` + val + `)`
		attr = b + `+` + n + b + `*=` + b + `*`
	)
	longest := func(s string) *regexp.Regexp {
		r := regexp.MustCompile(`^(?:` + s + `)`)
		r.Longest()
		return r
	}
	return patterns{
		startTag:   longest(`<(` + n + `)((?:` + att + `)*)` + b + `*(/?)>`),
		startBegun: longest(`<(?:` + n + `(?:` + att + `)*(?:` + b + `*/?|` + b + `+` + n + b + `*|` + attr + open + `?)?)?`),
		inValue:    longest(`<` + n + `(?:` + att + `)*` + attr + open + `$`),
		attr:       longest(att),
		endTag:     longest(`</(` + n + `)` + b + `*>`),
		endBegun:   longest(`</(?:` + n + b + `*)?`),
		told:       longest(`<\?(` + n + `)(?:\?>|` + b + `)`),
		toldBegun:  longest(`<\?(?:` + n + `)?`),
		ref:        longest(ref),

		declares:      longest(`<\?xml` + b),
		declared:      longest(`<\?xml((?:` + att + `)*)` + b + `*`),
		declaredBegun: longest(`<\?xml(?:` + att + `)*(?:` + b + `+` + n + b + `*|` + attr + open + `?)`),
		inDeclared:    longest(`<\?xml(?:` + att + `)*` + attr + open + `$`),
	}
}

func (p patterns) meaning(s string) string {
	return strings.NewReplacer("&lt;", "<", "&gt;", ">", "&amp;", "&", "&quot;", `"`, "&apos;", "'", "&#65;", "A", "&#x41;", "A", "&#13;", "\r").Replace(s)
}

// read is the whole document, whose line ends are 10 alone.
func (p patterns) read(doc string) outcome {
	var list []api.Tok
	lastText := -1 // where the text is that may go on
	for i := 0; i < len(doc); {
		size, tok, wrong, e := p.part(doc[i:], i == 0)
		if e != api.OK {
			return outcome{e: e, at: placeAt(doc, i+wrong)}
		}
		tok.At = placeAt(doc, i)
		for k := range tok.Attrs {
			tok.Attrs[k].At = placeAt(doc, i+tok.Attrs[k].At.Col)
		}
		switch {
		case tok.Kind == api.TokText && lastText >= 0:
			list[lastText].Text += tok.Text
		case tok.Kind == api.TokText && tok.Text != "":
			lastText = len(list)
			list = append(list, tok)
		case tok.Kind == api.TokStart || tok.Kind == api.TokEnd:
			lastText = -1
			list = append(list, tok)
		}
		i += size
	}
	return outcome{list: list}
}

func placeAt(doc string, i int) api.Pos {
	before := doc[:i]
	return place(1+strings.Count(before, "\n"), 1+len([]rune(before[strings.LastIndex(before, "\n")+1:])))
}

// part is one thing that begins the rest: how long it is, and what it says; or where it is wrong.
func (p patterns) part(s string, first bool) (int, api.Tok, int, api.Errno) {
	none := api.Tok{}
	bad := func(at int, e api.Errno) (int, api.Tok, int, api.Errno) { return 0, none, at, e }
	upTo := func(from, behind string) (int, bool) {
		i := strings.Index(s[len(from):], behind)
		return len(from) + i + len(behind), i >= 0
	}
	switch {
	case first && p.declares.MatchString(s):
		return p.declaration(s)
	case strings.HasPrefix(s, "<!--"):
		n, ok := upTo("<!--", "--")
		if !ok || n == len(s) {
			return bad(len(s), api.ErrMarkup)
		}
		if s[n] != '>' {
			return bad(n-2, api.ErrMarkup)
		}
		return n + 1, none, 0, 0
	case strings.HasPrefix(s, "<![CDATA["):
		n, ok := upTo("<![CDATA[", "]]>")
		if !ok {
			return bad(len(s), api.ErrMarkup)
		}
		return n, api.Tok{Kind: api.TokText, Text: s[9 : n-3]}, 0, 0
	case strings.HasPrefix(s, "<!DOCTYPE"):
		return bad(0, api.ErrDoctype)
	case strings.HasPrefix(s, "<!"):
		return bad(0, api.ErrMarkup)
	case strings.HasPrefix(s, "<?"):
		return p.instruction(s)
	case strings.HasPrefix(s, "</"):
		if m := p.endTag.FindStringSubmatch(s); m != nil {
			return len(m[0]), api.Tok{Kind: api.TokEnd, Name: m[1]}, 0, 0
		}
		return bad(len(p.endBegun.FindString(s)), api.ErrMarkup)
	case strings.HasPrefix(s, "<"):
		return p.tag(s)
	case strings.HasPrefix(s, "]]>"):
		return bad(0, api.ErrMarkup)
	case strings.HasPrefix(s, "&"):
		m := p.ref.FindString(s)
		if m == "" {
			return bad(0, api.ErrRef)
		}
		return len(m), api.Tok{Kind: api.TokText, Text: p.meaning(m)}, 0, 0
	}
	r := []rune(s)[0]
	return len(string(r)), api.Tok{Kind: api.TokText, Text: string(r)}, 0, 0
}

func (p patterns) instruction(s string) (int, api.Tok, int, api.Errno) {
	begun := p.toldBegun.FindString(s)
	if strings.ToLower(begun) == "<?xml" {
		return 0, api.Tok{}, 0, api.ErrMarkup
	}
	if p.told.FindString(s) == "" {
		return 0, api.Tok{}, len(begun), api.ErrMarkup
	}
	if i := strings.Index(s[len(begun):], "?>"); i >= 0 {
		return len(begun) + i + 2, api.Tok{}, 0, 0
	}
	return 0, api.Tok{}, len(s), api.ErrMarkup
}

func (p patterns) tag(s string) (int, api.Tok, int, api.Errno) {
	m := p.startTag.FindStringSubmatch(s)
	if m == nil {
		begun := p.startBegun.FindString(s)
		if len(begun) < len(s) && s[len(begun)] == '&' && p.inValue.MatchString(begun) {
			return 0, api.Tok{}, len(begun), api.ErrRef
		}
		return 0, api.Tok{}, len(begun), api.ErrMarkup
	}
	tok := api.Tok{Kind: api.TokStart, Name: m[1], Empty: strings.HasSuffix(m[0], "/>")}
	tok.Attrs = p.attrs(m[2], 1+len(m[1]))
	return len(m[0]), tok, 0, 0
}

// attrs are those that stand at i, each with the bytes ahead of it as its column.
func (p patterns) attrs(rest string, i int) []api.Attr {
	var list []api.Attr
	for rest != "" {
		a := p.attr.FindStringSubmatch(rest)
		name, value := a[1], a[2][1:len(a[2])-1]
		value = strings.NewReplacer("\t", " ", "\n", " ").Replace(value)
		at := i + len(a[0]) - len(strings.TrimLeft(a[0], " \t\n"))
		list = append(list, attr(0, at, name, p.meaning(value)))
		i += len(a[0])
		rest = rest[len(a[0]):]
	}
	return list
}

// declaration is told at its < where no attribute is begun that can't be read.
func (p patterns) declaration(s string) (int, api.Tok, int, api.Errno) {
	m := p.declared.FindStringSubmatch(s)
	if begun := p.declaredBegun.FindString(s); len(begun) > len(m[0]) {
		if len(begun) < len(s) && s[len(begun)] == '&' && p.inDeclared.MatchString(begun) {
			return 0, api.Tok{}, len(begun), api.ErrRef
		}
		return 0, api.Tok{}, len(begun), api.ErrMarkup
	}
	all := ""
	for _, a := range p.attrs(m[1], 0) {
		all += " " + a.Name + "=" + a.Value + ";"
	}
	if !regexp.MustCompile(`^ version=1\.0;( encoding=(?i:UTF-8);)?( standalone=(yes|no);)?$`).MatchString(all) || !strings.HasPrefix(s[len(m[0]):], "?>") {
		return 0, api.Tok{}, 0, api.ErrMarkup
	}
	return len(m[0]) + len("?>"), api.Tok{}, 0, 0
}

// pieces are put together in any order: markup, and what breaks it.
func pieces() []string {
	return []string{
		"<a", "<b", "</a", "</", "<", ">", "/", "/>", " ", " ", "\t", "\n", "\r", "\r\n", "c", "x", "=", "=", "'", "'", "\"", "\"", "&lt;", "&#65;", "&#13;", "&apos;", "&", ";",
		"<a>", "</a>", "<b/>", "<c d='1'>", " e=\"2\"", " f = '3'", "'4'", "<!--", "--", "-->", "-", "<!-- x -->", "<?", "?>", "?", "<?p q?>", "<?p?>", "xml", "<?xmL",
		"<![CDATA[", "]]>", "]", "<![CDATA[y]]>", "<!DOCTYPE", "<!", "é", "€", "\U0001f600", "1", ".",
	}
}

// documents are many random ones, the same in each run.
func documents(n, most int, list []string, see func(doc string)) {
	dice := rand.New(rand.NewSource(2))
	for range n {
		var b strings.Builder
		for range dice.Intn(most + 1) {
			b.WriteString(list[dice.Intn(len(list))])
		}
		see(b.String())
	}
}

func unified(doc string) string {
	return strings.NewReplacer("\r\n", "\n", "\r", "\n").Replace(doc)
}

// P2.1: of many documents, right ones and wrong ones, tokens, faults and places are those that the patterns tell.
func TestAsThePatternsTell(t *testing.T) {
	p := newPatterns()
	right, wrong := 0, 0
	compare := func(doc string) {
		want := p.read(unified(doc))
		list, err := Tokens(doc)
		e, at := api.Tell(err)
		if !same(list, want.list) || e != want.e || e != api.OK && at != want.at {
			t.Fatalf("%q: %+v, %v, not %+v", doc, list, err, want)
		}
		if err == nil {
			right++
		} else {
			wrong++
		}
	}
	documents(60000, 6, pieces(), compare)
	documents(20000, 25, []string{"<a>", "</a>", "<b/>", "<c d='1\"&lt;'>", "<a e=\"2\" f = '\n3\t'\n>", "&gt;", "&#13;", "x", "é\r\n", "\r", "<!-- x - -->", "<?p q?>", "<?p?>", "<![CDATA[y]]>", "<![CDATA[]]>"}, compare)
	if right < 20000 || wrong < 20000 {
		t.Error("too few of one sort:", right, wrong)
	}
	right, wrong = 0, 0
	declared := func(doc string) { compare("<?xml" + doc) }
	documents(30000, 5, []string{" version='1.0'", " version='1.0'", " encoding=\"utf-8\"", "\nstandalone = 'yes'", "?>", "?>", " ?><a/>", "é", " v=''", "'", " ", " =", "<", "&", "&lt;", "x", "/>"}, declared)
	documents(30000, 7, []string{" ", " ", "\t", "\r\n", "version", "encoding", "standalone", "x", "=", "=", "'", "'", "\"", "1.0", "&#65;", "&", "<", "?>", "?", ">", "'1.0'", "'UTF-8'", "\"no\"", "é"}, declared)
	if right < 1000 || wrong < 20000 {
		t.Error("too few declarations of one sort:", right, wrong)
	}
}

// P2.1: whatever the bytes are, nothing but a fault stops the reader, and it says nothing then.
func TestAnyBytes(t *testing.T) {
	var list []string
	for b := range 256 {
		list = append(list, string([]byte{byte(b)}))
	}
	few := append(pieces(), "\x00", "\xff", "\xc3", "\ufffe", "<?xml version='1.0'", "<?xml ", "encoding=")
	see := func(doc string) {
		defer func() {
			if r := recover(); r != nil {
				if _, ok := r.(*api.Fault); !ok {
					t.Fatalf("%q: %v", doc, r)
				}
			}
		}()
		list, err := Tokens(doc)
		if err != nil && len(list) != 0 {
			t.Fatalf("%q: %+v beside %v", doc, list, err)
		}
		newReader(characters(doc)).document()
		if err != nil {
			t.Fatalf("%q: %v of nothing", doc, err)
		}
	}
	documents(20000, 8, list, see)
	documents(40000, 12, few, see)
}

// P2.1: a document that ends within what is read.
func TestBrokenOff(t *testing.T) {
	for whole, before := range map[string]int{ // up to this length the fault is at the <
		"<a>": 0, "</a>": 0, "<a />": 0, "<aé b = 'x' c=\"y\n\" />": 0, "</aé\n>": 0,
		"<!-- é - x\n-->": 3, "<![CDATA[ é ]> x\n]]>": 8, "<?p é > ? x\n?>": 0,
	} {
		for i := 1; i < len(whole); i++ {
			if whole[i]&0xC0 == 0x80 {
				continue
			}
			for _, ahead := range []string{"", "x\n", "é"} {
				doc := ahead + whole[:i]
				at := placeAt(doc, len(doc))
				if i <= before && i > 1 {
					at = placeAt(doc, len(ahead))
				}
				refuses(t, doc, api.ErrMarkup, at.Line, at.Col)
			}
		}
		if _, err := Tokens(whole); err != nil {
			t.Errorf("%q: %v", whole, err)
		}
	}
}

// P2.2: the places rise, and no text stands beside a text, nor is one empty.
func TestPlacesRise(t *testing.T) {
	documents(40000, 20, []string{"<a>", "</a>", "<b c='1' d='2'/>", "x", "\n", "\r\n", "\r", "&lt;", "é", "<!-- -->", "<?p\r?>", "<![CDATA[]]>", "<![CDATA[\n]]>", "<![CDATA[z]]>"}, func(doc string) {
		list, err := Tokens(doc)
		if err != nil {
			t.Fatalf("%q: %v", doc, err)
		}
		last := place(0, 0)
		rises := func(at api.Pos) {
			if at.Line < last.Line || at.Line == last.Line && at.Col <= last.Col {
				t.Fatalf("%q: %v behind %v", doc, at, last)
			}
			last = at
		}
		for i, k := range list {
			rises(k.At)
			for _, a := range k.Attrs {
				rises(a.At)
			}
			if k.Kind == api.TokText && (k.Text == "" || i > 0 && list[i-1].Kind == api.TokText) {
				t.Fatalf("%q: text %q", doc, k.Text)
			}
		}
	})
}

// placeless are the tokens without their places.
func placeless(list []api.Tok) []api.Tok {
	var out []api.Tok
	for _, k := range list {
		k.At = api.Pos{}
		attrs := k.Attrs
		k.Attrs = nil
		for _, a := range attrs {
			a.At = api.Pos{}
			k.Attrs = append(k.Attrs, a)
		}
		out = append(out, k)
	}
	return out
}

// P2.3: comments and instructions in between change nothing but places.
func TestCommentsInBetween(t *testing.T) {
	dice := rand.New(rand.NewSource(3))
	parts := []string{"<a>", "</a>", "<b c='1' d='&lt;'/>", "x", "\n", "&amp;", "]", "é", "<![CDATA[<z]]>", "<![CDATA[]]>"}
	nothing := []string{"<!---->", "<!-- <a> & ]]> -->", "<?p?>", "<?p <a> & ]]> -- ?>", "<!--\r\n--><?é\n?>"}
	for range 20000 {
		plain, mixed := "", ""
		if dice.Intn(3) == 0 {
			plain = "<?xml version='1.0'?>"
			mixed = plain
		}
		for range dice.Intn(12) {
			part := parts[dice.Intn(len(parts))]
			if dice.Intn(2) == 0 {
				mixed += nothing[dice.Intn(len(nothing))]
			}
			plain += part
			mixed += part
		}
		mixed += nothing[dice.Intn(len(nothing))]
		a, e := Tokens(plain)
		b, f := Tokens(mixed)
		if e != nil || f != nil || !same(placeless(a), placeless(b)) {
			t.Fatalf("%q: %+v, %v; %q: %+v, %v", plain, a, e, mixed, b, f)
		}
	}
	refuses(t, "<!-- --><?xml version='1.0'?><a/>", api.ErrMarkup, 1, 9)
	refuses(t, "<?p?><?xml version='1.0'?><a/>", api.ErrMarkup, 1, 6)
}

// P2.4: what is answered is new, its spare room too, and no list of it is another's.
func TestNewMemory(t *testing.T) {
	const doc = "<a b='1' c='2' d='3'><e f='4'/>x<g/><h i='5' j='6' k='7'></h></a>"
	want, _ := Tokens(doc)
	list, err := Tokens(doc)
	if err != nil {
		t.Fatal(err)
	}
	for i := range list {
		room := list[i].Attrs[:cap(list[i].Attrs)]
		for k := range room {
			room[k] = attr(99, i, "overwritten", "so")
		}
		for j := range list {
			if j > i && !reflect.DeepEqual(list[j], want[j]) {
				t.Fatalf("list %d writes into %d: %+v", i, j, list[j])
			}
			for _, a := range list[j].Attrs {
				if j < i && a.At.Col != j {
					t.Fatalf("list %d writes into %d: %+v", i, j, list[j])
				}
			}
		}
	}
	whole := list[:cap(list)]
	for i := range whole {
		whole[i] = text(99, 99, "overwritten")
	}
	if again, _ := Tokens(doc); !reflect.DeepEqual(again, want) {
		t.Errorf("the answer is kept: %+v", again)
	}
}

// What a call answers hangs on the document alone, though the names lie in a map.
func TestTheSameAgain(t *testing.T) {
	const doc = "<a b='&lt;&gt;&amp;&quot;&apos;'>&apos;&quot;&amp;&gt;&lt;</a>"
	for range 200 {
		takes(t, doc, start(1, 1, "a", attr(1, 4, "b", "<>&\"'")), text(1, 34, "'\"&><"), end(1, 59, "a"))
	}
}
