package eslib

import (
	"pennant/api"
	"pennant/esheap"
	"pennant/esnum"
	"pennant/utf"
)

// A part is a value as a JSON text says it, of which no object is made yet: kind tells which one is to be, 0 that it is value itself.
type part struct {
	kind  int
	value api.Value
	names []string
	kids  []part
}

// parsed is the value of a JSON text, which is read whole ahead of the first object's being made.
func parsed(h *esheap.Heap, w string) api.Value {
	r := reader{text: w}
	p := r.part()
	if r.next() != end {
		r.refuse()
	}
	return made(h, p)
}

// made is a part's value. Objects are made in the order in which they end.
func made(h *esheap.Heap, p part) api.Value {
	if p.kind == 0 {
		return p.value
	}
	values := make([]api.Value, len(p.kids))
	for i, kid := range p.kids {
		values[i] = made(h, kid)
	}
	if p.kind == array {
		return newArray(h, values)
	}
	o := newPlain(h, noProto)
	for i, v := range values {
		must(h.Put(o.Ref, p.names[i], v))
	}
	return o
}

// A reader goes through a JSON text.
type reader struct {
	text string
	at   int
	deep int
}

// refuse stops at what is no JSON.
func (r *reader) refuse() { fail(api.ErrSyntax) }

// next is the unit behind the blanks that stand here, or end.
func (r *reader) next() int {
	for {
		switch u := unitAt(r.text, r.at); u {
		case 9, 10, 13, 32:
			r.at++
		default:
			return u
		}
	}
}

// takes goes on behind that unit, if it stands here.
func (r *reader) takes(u int) bool {
	if unitAt(r.text, r.at) != u {
		return false
	}
	r.at++
	return true
}

// want takes units that must stand here.
func (r *reader) want(plainText string) {
	for i := range len(plainText) {
		if !r.takes(int(plainText[i])) {
			r.refuse()
		}
	}
}

// part reads a value, with the blanks ahead of it.
func (r *reader) part() part {
	switch r.next() {
	case '[':
		return r.list()
	case '{':
		return r.record()
	case '"':
		return part{value: text(r.quoted())}
	case 'n':
		r.want("null")
		return part{value: null()}
	case 't':
		r.want("true")
		return part{value: boolean(true)}
	case 'f':
		r.want("false")
		return part{value: boolean(false)}
	}
	return part{value: number(r.number())}
}

// list reads an array.
func (r *reader) list() part {
	p := part{kind: array}
	for r.open(); r.goesOn(len(p.kids), ']'); {
		kid := r.part()
		p.kids = append(p.kids, kid)
	}
	return p
}

// record reads an object.
func (r *reader) record() part {
	p := part{kind: plain}
	for r.open(); r.goesOn(len(p.kids), '}'); {
		name := r.name()
		kid := r.part()
		p.names = append(p.names, name)
		p.kids = append(p.kids, kid)
	}
	return p
}

// name reads a key, and the colon behind it.
func (r *reader) name() string {
	r.next()
	name := r.quoted()
	r.next()
	r.want(":")
	return name
}

// open takes the opening bracket that stands here.
func (r *reader) open() {
	r.at++
	r.deep++
	if r.deep > api.MaxNest {
		r.refuse()
	}
}

// goesOn says whether another part follows the count ones that were read in brackets, and takes what says so: a comma, ahead of all but the first, or the closing bracket.
func (r *reader) goesOn(count, closing int) bool {
	if r.next() == closing {
		r.at++
		r.deep--
		return false
	}
	if count > 0 {
		r.want(",")
	}
	return true
}

// number reads a number.
func (r *reader) number() float64 {
	from := r.at
	r.takes('-')
	if !r.takes('0') {
		r.digits()
	}
	if r.takes('.') {
		r.digits()
	}
	if r.takes('e') || r.takes('E') {
		if !r.takes('+') {
			r.takes('-')
		}
		r.digits()
	}
	return esnum.Number(utf.Cut(r.text, from, r.at))
}

// digits takes those that stand here, of which there must be one.
func (r *reader) digits() {
	from := r.at
	for isDigit(unitAt(r.text, r.at), 10) {
		r.at++
	}
	if r.at == from {
		r.refuse()
	}
}

// quoted reads a text in marks, and tells what it says.
func (r *reader) quoted() string {
	var said []byte
	for r.want(`"`); !r.takes('"'); {
		u := r.unit()
		said = append(said, byte(u>>8), byte(u))
	}
	return string(said)
}

// unit takes a unit of a text, or what says one.
func (r *reader) unit() int {
	u := unitAt(r.text, r.at)
	// The end is below them all.
	if u < firstBare {
		r.refuse()
	}
	r.at++
	if u == '\\' {
		return r.escape()
	}
	return u
}

// escape is the unit that is said by what stands behind a \.
func (r *reader) escape() int {
	u := unitAt(r.text, r.at)
	r.at++
	switch u {
	case '"', '\\', '/':
		return u
	case 'b':
		return '\b'
	case 'f':
		return '\f'
	case 'n':
		return '\n'
	case 'r':
		return '\r'
	case 't':
		return '\t'
	case 'u':
		return r.sixteens()
	}
	panic(stop{api.ErrSyntax})
}

// sixteens is the unit of the four digits of sixteen that must stand here.
func (r *reader) sixteens() int {
	u := 0
	for range 4 {
		d := digit(unitAt(r.text, r.at))
		if d < 0 {
			r.refuse()
		}
		u = u<<4 | d
		r.at++
	}
	return u
}
