package eslib

import (
	"encoding/json"
	"fmt"
	"math"
	"math/rand"
	"strconv"
	"strings"
	"testing"

	"pennant/api"
	"pennant/esheap"
)

// parses holds both ways to parse against what is to come.
func parses(t *testing.T, w api.Value, want string) {
	t.Helper()
	h := esheap.New(api.MaxCells)
	v, e := Parse(h, w.Text)
	if got := told(h, v, e); got != want {
		t.Errorf("%s: %s, not %s", show(h, w), got, want)
	}
	if objects, left := h.Size(); e != api.OK && (objects != 0 || left != api.MaxCells) {
		t.Errorf("%s: %d objects, %d cells", show(h, w), objects, left)
	}
	other := esheap.New(api.MaxCells)
	u, f := Call(other, parse, undefined(), args(w, num(1)))
	if !isOne(u, v) || e != f || seen(other) != seen(h) {
		t.Errorf("%s: by Parse %s, by Call %s", show(h, w), told(h, v, e), told(other, u, f))
	}
}

// P10.1: values of all kinds.
func TestParse(t *testing.T) {
	for _, c := range []struct{ text, want string }{
		{"null", "null"}, {"true", "true"}, {"false", "false"}, {" \t\r\nnull \t\r\n", "null"},
		{"0", "0"}, {"-0", "-0"}, {"7", "7"}, {"-12", "-12"}, {"10", "10"}, {"0.5", "0.5"}, {"-0.0", "-0"}, {"1.50", "1.5"}, {"0.000", "0"}, {"1e2", "100"}, {"1E+2", "100"}, {"1e-2", "0.01"}, {"0e5", "0"}, {"0E-0", "0"}, {"12.5e01", "125"}, {"1e00", "1"},
		{"1e400", "+Inf"}, {"-1e400", "-Inf"}, {"1e-400", "0"}, {"-1e-400", "-0"}, {"9007199254740993", "9.007199254740992e+15"}, {"5e-324", "5e-324"}, {"1" + strings.Repeat("0", 400), "+Inf"},
		{`""`, "''"}, {`"ab"`, "'ab'"}, {`" a "`, "' a '"}, {`"\"\\\/\b\f\n\r\t"`, `'"\/\8;\c;\a;\d;\9;'`}, {`"/"`, "'/'"}, {`"'"`, "'''"},
		{`"\u0041\u00e9\u00C9\uabcd\uABCD\uFfFf\u0000"`, `'A\e9;\c9;\abcd;\abcd;\ffff;\0;'`}, {`"\u00411"`, "'A1'"}, {`"\ud83d\ude00"`, `'\d83d;\de00;'`}, {`"\ude00x"`, `'\de00;x'`},
		{"\"\x7f\u0080\u00a0\u2028\ufeff\"", `'\7f;\80;\a0;\2028;\feff;'`}, {`"[1,"`, "'[1,'"}, {`"//"`, "'//'"},
		{"[]", "[]"}, {"[ ]", "[]"}, {"[1]", "[1]"}, {" [ 1 , 2 ] ", "[1, 2]"}, {"[\n1\t,\r2]", "[1, 2]"}, {"[[],[[]]]", "[[], [[]]]"}, {`[null,true,-1.5,"x",{}]`, "[null, true, -1.5, 'x', {}]"},
		{"{}", "{}"}, {"{ }", "{}"}, {`{"a":1}`, "{'a': 1}"}, {` { "a" : 1 , "b" : [ ] } `, "{'a': 1, 'b': []}"}, {"{\n\"a\"\r:\t1}", "{'a': 1}"}, {`{"":1}`, "{'': 1}"}, {`{"b":1,"a":2}`, "{'b': 1, 'a': 2}"},
		{`{"2":1,"1":2,"length":3,"__proto__":{}}`, "{'2': 1, '1': 2, 'length': 3, '__proto__': {}}"}, {`{"\u0061\n":1}`, `{'a\a;': 1}`},
		{`{"a":1,"b":2,"a":3}`, "{'a': 3, 'b': 2}"}, {`{"a":1,"\u0061":{"a":2}}`, "{'a': {'a': 2}}"}, {`{"a":[],"a":[1],"b":0,"a":null}`, "{'a': null, 'b': 0}"},
	} {
		parses(t, str(c.text), c.want)
	}
	h := esheap.New(100)
	calls(t, h, "null", parse, undefined(), null())
	calls(t, h, "true", parse, undefined(), yes())
	calls(t, h, "1.5", parse, undefined(), num(1.5))
	calls(t, h, "1e+21", parse, undefined(), num(1e21))
	calls(t, h, "5", parse, undefined(), list(t, h, num(5)))
	calls(t, h, "[5, 6]", parse, undefined(), list(t, h, str("[5"), str("6]")))
}

// P10.1: what is no JSON; nothing is made.
func TestParseWrong(t *testing.T) {
	for _, s := range []string{
		"", " ", "nul", "nulll", "Null", "NULL", "truE", "tru", "falsee", "undefined", "NaN", "Infinity", "-Infinity", "-", "+1", "--1", "- 1", ".5", "-.5", "5.", "-5.", "1.e5", "01", "00", "-01", "0x1", "1e", "1e+", "1E-", "1e+-1", "1e1.5", "1..2", "1_0", "1 2", "1,", ",1", "1a", "0b1",
		"'a'", `"`, `"a`, `"a\"`, `a"`, `"a" "b"`, `"a"b`, "\"\n\"", "\"\t\"", "\"\x00\"", "\"\x1f\"", `"\x41"`, `"\v"`, `"\0"`, `"\'"`, `"\a"`, `"\N"`, `"\U0041"`, `"\`, `"\u`, `"\u"`, `"\u004"`, `"\u004g"`, `"\u 041"`, `"\u+041"`, `"\u0x41"`, `"\u-001"`, "\"\\\n\"", `"\é"`, `"\ud83d\u"`, `"\u004１"`,
		"[", "]", "[1", "[1,", "[1,]", "[,1]", "[,]", "[1,,2]", "[1 2]", "[1:2]", "[1}", "[]]", "[[]", "[1]]", "[1],", "(1)", "[1;2]", "[undefined]",
		"{", "}", "{a:1}", "{'a':1}", `{"a"}`, `{"a":}`, `{"a":1`, `{"a":1,`, `{"a":1,}`, `{,"a":1}`, `{"a" 1}`, `{"a"::1}`, `{"a":1 "b":2}`, `{"a":1;"b":2}`, `{"a":1,,"b":2}`, `{1:2}`, `{null:1}`, `{"a":1]`, `{"a":1}}`, `{}{}`, `{[]:1}`, `{"a",1}`, `{"a`, `{"a":1:2}`,
		"\v1", "\f1", "\u00a01", "\ufeff1", "\u20281", "1\v", "1\u00a0", "[\u00a0]", "1\x00", "\x00", "//\n1", "1//", "/**/1", "1/**/", "é", "#1", "１", "ｎull",
	} {
		parses(t, str(s), "ErrSyntax")
	}
	h := esheap.New(100)
	for _, v := range args(undefined(), num(math.NaN()), num(math.Inf(1)), list(t, h), list(t, h, num(1), num(2)), record(t, h), funcOf(t, h), builtin(1)) {
		changesNothing(t, h, "ErrSyntax", parse, undefined(), v)
	}
	changesNothing(t, h, "ErrSyntax", parse, str("1"))
	// Units that have the byte of a mark in them are others.
	parses(t, row16(0x5b5b, 0x5d5d), "ErrSyntax")
	parses(t, row16(0x0130), "ErrSyntax")
	parses(t, row16(0x2222, 0x2222), "ErrSyntax")
}

// P10.1: a text's last byte that is of no unit is passed over.
func TestParseOdd(t *testing.T) {
	h := esheap.New(100)
	for _, spare := range []string{"\x00", "]", "1", "\xff"} {
		if v, e := Parse(h, wideOf("12")+spare); v != num(12) || e != api.OK {
			t.Error(v, e)
		}
		if v, e := Parse(h, wideOf(`"a"`)+spare); v != str("a") || e != api.OK {
			t.Error(v, e)
		}
		if v, e := Parse(h, wideOf("[1")+spare); v != undefined() || e != api.ErrSyntax {
			t.Error(v, e)
		}
		if v, e := Parse(h, spare); v != undefined() || e != api.ErrSyntax {
			t.Error(v, e)
		}
	}
}

// P10.1: all units, by themselves and written out.
func TestParseAllUnits(t *testing.T) {
	h := esheap.New(0)
	for u := range 1 << 16 {
		bare, e := Parse(h, unitsOf('"', u, '"'))
		if isBare := u >= 32 && u != '"' && u != '\\'; isBare && (bare != row16(u) || e != api.OK) || !isBare && (bare != undefined() || e != api.ErrSyntax) {
			t.Fatal(u, bare, e)
		}
		digits := strconv.FormatInt(0x10000|int64(u), 16)[1:]
		for _, s := range []string{`"\u` + digits + `"`, `"\u` + strings.ToUpper(digits) + `"`} {
			if v, e := Parse(h, wideOf(s)); v != row16(u) || e != api.OK {
				t.Fatal(s, v, e)
			}
		}
		v, e := Parse(h, unitsOf('"', '\\', u, '"'))
		said, ok := map[int]int{'"': '"', '\\': '\\', '/': '/', 'b': 8, 'f': 12, 'n': 10, 'r': 13, 't': 9}[u]
		if ok && (v != row16(said) || e != api.OK) || !ok && (v != undefined() || e != api.ErrSyntax) {
			t.Fatal(u, v, e)
		}
	}
}

// nest is a text of so many brackets by turns, around something.
func nest(deep int, inside string, brackets ...string) string {
	for i := range deep {
		b := brackets[i%len(brackets)]
		front, back, _ := strings.Cut(b, " ")
		inside = front + inside + back
	}
	return inside
}

// P10.1: how deep JSON may nest.
func TestParseNest(t *testing.T) {
	for _, brackets := range [][]string{{"[ ]"}, {`{"a": }`}, {"[ ]", `{"a": }`}, {"[1, ]", `{"a": ,"b":[]}`}} {
		for _, inside := range []string{"1", `"[[[["`, "null"} {
			for deep := 40; deep < 60; deep++ {
				s := nest(deep, inside, brackets...)
				h := esheap.New(1000)
				v, e := Parse(h, wideOf(s))
				switch {
				case deep > 48 && (v != undefined() || e != api.ErrSyntax):
					t.Error(deep, s, v, e)
				case deep <= 48 && (v.Kind != api.Object || e != api.OK):
					t.Error(deep, s, v, e)
				}
			}
		}
	}
	// Those beside one another don't count.
	parses(t, str("["+strings.Repeat("[],", 100)+"[]]"), "["+strings.Repeat("[], ", 100)+"[]]")
	parses(t, str("["+strings.Repeat("{},", 100)+"[]]"), "["+strings.Repeat("{}, ", 100)+"[]]")
	parses(t, str("["+nest(47, "", "[ ]")+","+nest(48, "", "[ ]")+"]"), "ErrSyntax")
	parses(t, str(strings.Repeat("[", 100000)), "ErrSyntax")
	parses(t, str(strings.Repeat(`{"a":`, 100000)), "ErrSyntax")
}

// P10.1: objects are made in the order in which they end.
func TestParseOrder(t *testing.T) {
	h := esheap.New(100)
	v, e := Parse(h, wideOf(`{"a":[[],{"x":{}}],"b":{},"a":[1]}`))
	if e != api.OK || v != object(6) {
		t.Fatal(v, e)
	}
	for i, want := range []string{"[]", "{}", "{'x': {}}", "[[], {'x': {}}]", "{}", "[1]", "{'a': [1], 'b': {}}"} {
		if got := show(h, object(i)); got != want || h.Proto(i) != -1 {
			t.Error(i, got)
		}
	}
}

// A taking is cells that parse takes at once, and the object that has them then.
type taking struct {
	cells int
	seen  string
}

// P10.1: where cells lack, parse has taken those of what it could make ahead of that.
func TestParseWithoutCells(t *testing.T) {
	text := `{"a":[[],{"x":{},"y":7,"x":8}],"b":{},"a":[1,2]}`
	takings := []taking{
		{1, "[]"}, {1, "{}"},
		{1, "{}"}, {1, "{'x': {}}"}, {1, "{'x': {}, 'y': 7}"}, {0, "{'x': 8, 'y': 7}"},
		{3, "[[], {'x': 8, 'y': 7}]"}, {1, "{}"}, {3, "[1, 2]"},
		{1, "{}"}, {1, "{'a': [[], {'x': 8, 'y': 7}]}"}, {1, "{'a': [[], {'x': 8, 'y': 7}], 'b': {}}"}, {0, "{'a': [1, 2], 'b': {}}"},
	}
	for cells := range 20 {
		h := esheap.New(cells)
		v, e := Parse(h, wideOf(text))
		taken, last, failed := 0, "", false
		for _, k := range takings {
			if failed = taken+k.cells > cells; failed {
				break
			}
			taken += k.cells
			last = k.seen
		}
		objects, left := h.Size()
		if failed != (e == api.ErrHeap) || !failed && (e != api.OK || v != object(6)) || failed && v != undefined() || left != cells-taken {
			t.Fatal(cells, v, e, left)
		}
		if last != "" && show(h, object(objects-1)) != last {
			t.Error(cells, show(h, object(objects-1)), last)
		}
		if v, e := Parse(h, wideOf(text+"]")); v != undefined() || e != api.ErrSyntax {
			t.Error(cells, v, e)
		}
	}
	h := esheap.New(3)
	if v, e := Parse(h, wideOf("[1,2,3]")); v != undefined() || e != api.ErrHeap || seen(h) != "0 3" {
		t.Error(v, e, seen(h))
	}
	if v, e := Parse(esheap.New(0), wideOf(`"abc"`)); v != str("abc") || e != api.OK {
		t.Error(v, e)
	}
}

// P10.1: an object's property whose key comes again takes no other cell.
func TestParseKeysAgain(t *testing.T) {
	h := esheap.New(3)
	v, e := Parse(h, wideOf("{"+strings.Repeat(`"a":1,"b":2,`, 1000)+`"b":3,"a":4}`))
	if got := told(h, v, e); got != "{'a': 4, 'b': 3}" {
		t.Error(got)
	}
}

// P10.1: texts that are long are read soon, and may say more than a script puts together.
func TestParseLong(t *testing.T) {
	h := esheap.New(api.MaxCells)
	many := strings.Repeat("1,", 1<<18)
	if v, e := Parse(h, wideOf("["+many+"1]")); v != undefined() || e != api.ErrHeap || seen(h) != "0 10000" {
		t.Error(v, e)
	}
	if v, e := Parse(h, wideOf("["+many+"]")); v != undefined() || e != api.ErrSyntax {
		t.Error(v, e)
	}
	if v, e := Parse(h, wideOf(`"`+strings.Repeat(`\n`, 1<<18)+`"`)); v != str(strings.Repeat("\n", 1<<18)) || e != api.OK {
		t.Error(e)
	}
	if v, e := Parse(h, wideOf(strings.Repeat(" ", 1<<18)+"-"+strings.Repeat("1", 1<<18)+"e-262143")); !isOne(v, num(-10.0/9)) && !isOne(v, num(-1.1111111111111112)) || e != api.OK {
		t.Error(v, e)
	}
	v, e := Parse(h, wideOf("["+strings.Repeat("1,", 9998)+"1]"))
	if items, _ := h.Items(v.Ref); e != api.OK || len(items) != 9999 {
		t.Error(v, e)
	}
}

// read is a heap's value as the library reads JSON.
func read(h *esheap.Heap, v api.Value) any {
	switch v.Kind {
	case api.Null:
		return nil
	case api.Bool:
		return v.Num == 1
	case api.Number:
		return v.Num
	case api.Text:
		return narrow(v.Text)
	}
	if items, ok := h.Items(v.Ref); ok {
		all := []any{}
		for _, v := range items {
			all = append(all, read(h, v))
		}
		return all
	}
	all := map[string]any{}
	for _, key := range h.Keys(v.Ref) {
		v, _ := h.Own(v.Ref, key)
		all[narrow(key)] = read(h, v)
	}
	return all
}

// asLibrary holds Parse against the library's reader, and tells whether the text is JSON.
func asLibrary(t *testing.T, s string) bool {
	t.Helper()
	h := esheap.New(api.MaxCells)
	v, e := Parse(h, wideOf(s))
	if !json.Valid([]byte(s)) {
		if v != undefined() || e != api.ErrSyntax || seen(h) != "0 10000" {
			t.Fatalf("%q: %s", s, told(h, v, e))
		}
		return false
	}
	if e != api.OK {
		t.Fatalf("%q: %v", s, e)
	}
	if fmt.Sprintf("%#v", read(h, v)) != fmt.Sprintf("%#v", byLibrary(t, s)) {
		t.Fatalf("%q: %s", s, show(h, v))
	}
	return true
}

// byLibrary is what the library reads, with numbers that it would refuse as infinities.
func byLibrary(t *testing.T, s string) any {
	t.Helper()
	var all any
	d := json.NewDecoder(strings.NewReader(s))
	d.UseNumber()
	if err := d.Decode(&all); err != nil {
		t.Fatal(err)
	}
	return withFloats(all)
}

func withFloats(v any) any {
	switch x := v.(type) {
	case json.Number:
		f, _ := strconv.ParseFloat(string(x), 64)
		return f
	case []any:
		for i := range x {
			x[i] = withFloats(x[i])
		}
	case map[string]any:
		for name := range x {
			x[name] = withFloats(x[name])
		}
	}
	return v
}

// P10.1: all short texts of some pieces.
func TestParseAllShort(t *testing.T) {
	t.Parallel()
	right := 0
	for _, c := range []struct {
		pieces []string
		most   int
	}{
		{[]string{"[", "]", "{", "}", ",", ":", `"a"`, "1", " "}, 6},
		{[]string{"-", "+", "0", "1", ".", "e", "E", " ", "x"}, 6},
		{[]string{`"`, `\`, "u", "0", "041", "n", "/", "\n", "é"}, 6},
	} {
		var all func(s string, rest int)
		all = func(s string, rest int) {
			if asLibrary(t, s) {
				right++
			}
			for _, p := range c.pieces {
				if rest > 0 {
					all(s+p, rest-1)
				}
			}
		}
		all("", c.most)
	}
	if right < 3000 {
		t.Error(right)
	}
}

// jsonByDice is a JSON text by dice.
func jsonByDice(dice *rand.Rand, deep int) string {
	blank := []string{"", "", "", " ", "\n\t", "\r"}[dice.Intn(6)]
	most := 7
	if deep == 0 {
		most = 5
	}
	switch dice.Intn(most) {
	case 0:
		return blank + []string{"null", "true", "false"}[dice.Intn(3)]
	case 1:
		return blank + []string{"0", "-0", "12", "-1.50", "1e5", "3E-2", "0.25", "1e+3", "98765432109876543210"}[dice.Intn(9)]
	case 2, 3, 4:
		return blank + textByDice(dice)
	case 5:
		var kids []string
		for range dice.Intn(4) {
			kids = append(kids, jsonByDice(dice, deep-1))
		}
		return "[" + blank + strings.Join(kids, blank+",") + blank + "]"
	}
	var kids []string
	for range dice.Intn(4) {
		kids = append(kids, blank+textByDice(dice)+blank+":"+jsonByDice(dice, deep-1))
	}
	return "{" + blank + strings.Join(kids, ",") + blank + "}"
}

func textByDice(dice *rand.Rand) string {
	pieces := []string{"a", "b", "a", "é", "/", " ", `\n`, `\"`, `\\`, `\/`, `\u0041`, `\u00e9`, `\b`, `\t`, "length", "0", "]", ","}
	s := ""
	for range dice.Intn(4) {
		s += pieces[dice.Intn(len(pieces))]
	}
	return `"` + s + `"`
}

// P10.1: JSON by dice, and the same bent.
func TestParseByDice(t *testing.T) {
	t.Parallel()
	dice := rand.New(rand.NewSource(20))
	right := 0
	for range 20000 {
		s := jsonByDice(dice, 4)
		if !asLibrary(t, s) {
			t.Fatal(s)
		}
		at := dice.Intn(len(s) + 1)
		bent := s[:at] + []string{",", "]", `"`, "0", " ", `\`, "}", "-", "e", ":", "x", ""}[dice.Intn(12)] + s[min(len(s), at+dice.Intn(2)):]
		// A character may have been bent in two.
		if strings.ToValidUTF8(bent, "") == bent && asLibrary(t, bent) {
			right++
		}
	}
	if right < 1000 {
		t.Error(right)
	}
}
