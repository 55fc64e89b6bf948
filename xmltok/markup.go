package xmltok

import (
	"strings"

	"pennant/api"
)

// declares tells a declaration from an instruction whose name goes on, or ends, behind these letters.
func (r *reader) declares() bool {
	const first = "<?xml"
	return r.sees(first) && len(r.rest) > len(first) && isBlank(rune(r.rest[len(first)]))
}

func (r *reader) declaration() {
	at := r.at
	r.take(len("<?xml"))
	list := r.attributes()
	if !declared(list) || !r.sees("?>") {
		fail(api.ErrMarkup, at)
	}
	r.take(len("?>"))
}

// declared tells whether a declaration's attributes are those that it may have.
func declared(list []api.Attr) bool {
	if len(list) == 0 || list[0].Name != "version" || list[0].Value != "1.0" {
		return false
	}
	list = list[1:]
	if len(list) > 0 && list[0].Name == "encoding" && strings.EqualFold(list[0].Value, "UTF-8") {
		list = list[1:]
	}
	if len(list) > 0 && list[0].Name == "standalone" && (list[0].Value == "yes" || list[0].Value == "no") {
		list = list[1:]
	}
	return len(list) == 0
}

func (r *reader) instruction() {
	at := r.at
	r.take(len("<?"))
	if strings.EqualFold(r.name(), "xml") {
		fail(api.ErrMarkup, at)
	}
	// Without a blank only the end may come; what else stands here is the fault, a ? alone too.
	if !r.blanks() {
		r.want("?>")
		return
	}
	r.upTo("?>")
}

func (r *reader) comment() {
	r.take(len("<!--"))
	n := strings.Index(r.rest, "--")
	if n < 0 || n+len("--") == len(r.rest) {
		r.breakOff()
	}
	r.take(n)
	r.want("-->")
}

func (r *reader) section() {
	at := r.at
	r.take(len("<![CDATA["))
	text := r.upTo("]]>")
	r.say(text, at)
}

func (r *reader) endTag() {
	t := api.Tok{Kind: api.TokEnd, At: r.at}
	r.take(len("</"))
	t.Name = r.name()
	r.blanks()
	r.want(">")
	r.tag(t)
}

func (r *reader) startTag() {
	t := api.Tok{Kind: api.TokStart, At: r.at}
	r.take(len("<"))
	t.Name = r.name()
	t.Attrs = r.attributes()
	if r.sees("/") {
		r.take(len("/"))
		t.Empty = true
	}
	r.want(">")
	r.tag(t)
}

// tag lays a tag behind the text that it ends.
func (r *reader) tag(t api.Tok) {
	r.endText()
	r.list = append(r.list, t)
}

// attributes takes those that stand here, and the blanks behind them. What else stands there is the caller's, a name without a blank ahead of it too: it is no attribute.
func (r *reader) attributes() []api.Attr {
	var list []api.Attr
	for r.blanks() && r.beginsName() {
		a := r.attribute()
		list = append(list, a)
	}
	return list
}

func (r *reader) attribute() api.Attr {
	a := api.Attr{At: r.at}
	a.Name = r.name()
	r.blanks()
	r.want("=")
	r.blanks()
	a.Value = r.value()
	return a
}

// value takes a value and both its marks.
func (r *reader) value() string {
	mark := `"`
	if r.sees("'") {
		mark = "'"
	}
	r.want(mark)
	var v strings.Builder
	for !r.sees(mark) {
		switch {
		case r.sees("&"):
			v.WriteRune(r.reference())
		case r.sees("<") || r.rest == "":
			fail(api.ErrMarkup, r.at)
		default:
			taken := r.take(r.before("<&" + mark))
			v.WriteString(strings.Map(spaced, taken))
		}
	}
	r.take(len(mark))
	return v.String()
}

func spaced(c rune) rune {
	if isBlank(c) {
		return ' '
	}
	return c
}
