package eslib

import (
	"math"
	"math/big"
	"math/rand"
	"regexp"
	"strconv"
	"strings"
	"testing"

	"pennant/api"
	"pennant/esheap"
	"pennant/esnum"
)

// P10.1: Number, String, Boolean and isNaN, of values of all kinds.
func TestTurned(t *testing.T) {
	h := esheap.New(100)
	loop := list(t, h)
	put(t, h, loop, "0", loop)
	for _, c := range []struct {
		v                    api.Value
		num, text, boo, isNo string
	}{
		{undefined(), "NaN", "'undefined'", "false", "true"},
		{null(), "0", "'null'", "false", "false"},
		{yes(), "1", "'true'", "true", "false"},
		{no(), "0", "'false'", "false", "false"},
		{num(-1.5), "-1.5", "'-1.5'", "true", "false"},
		{num(minusNought()), "-0", "'0'", "false", "false"},
		{num(math.NaN()), "NaN", "'NaN'", "false", "true"},
		{num(math.Inf(-1)), "-Inf", "'-Infinity'", "true", "false"},
		{str(""), "0", "''", "false", "false"},
		{str(" 0x1F "), "31", "' 0x1F '", "true", "false"},
		{str("1x"), "NaN", "'1x'", "true", "true"},
		{row16(0xd83d, 0), "NaN", `'\d83d;\0;'`, "true", "true"},
		{list(t, h), "0", "''", "true", "false"},
		{list(t, h, num(7)), "7", "'7'", "true", "false"},
		{list(t, h, num(7), null()), "NaN", "'7,'", "true", "true"},
		{loop, "0", "''", "true", "false"},
		{record(t, h), "NaN", "'[object Object]'", "true", "true"},
		{funcOf(t, h), "NaN", "'function'", "true", "true"},
		{builtin(5), "NaN", "'function'", "true", "true"},
	} {
		calls(t, h, c.num, toNumber, undefined(), c.v, str("9"))
		calls(t, h, c.text, toText, undefined(), c.v, str("9"))
		calls(t, h, c.boo, toBool, undefined(), c.v, str("9"))
		calls(t, h, c.isNo, isNaN, undefined(), c.v, str("9"))
	}
	calls(t, h, "0", toNumber, undefined())
	calls(t, h, "''", toText, undefined())
	calls(t, h, "false", toBool, undefined())
	calls(t, h, "true", isNaN, undefined())
}

// P10.1: parseInt's edges.
func TestParseInt(t *testing.T) {
	h := esheap.New(100)
	for _, c := range []struct {
		text, want string
		base       []api.Value
	}{
		{"12", "12", nil}, {"12", "12", args(undefined())}, {"12", "12", args(null())}, {"12", "12", args(str(""))}, {"12", "12", args(num(math.NaN()))},
		{"12", "12", args(num(minusNought()))}, {"12", "12", args(num(0.9))}, {"12", "12", args(num(-0.9))}, {"12", "12", args(no())},
		{"12", "12", args(num(10.9))}, {"12", "18", args(num(16.5))}, {"12", "18", args(str("0x10"))}, {"12", "18", args(list(t, h, num(16)))},
		{"12", "NaN", args(num(1))}, {"12", "NaN", args(yes())}, {"12", "NaN", args(num(2))}, {"12", "NaN", args(num(8))}, {"12", "NaN", args(num(9))},
		{"12", "NaN", args(num(11))}, {"12", "NaN", args(num(36))}, {"12", "NaN", args(num(-10))}, {"12", "NaN", args(num(-1))},
		{"12", "NaN", args(num(math.Inf(1)))}, {"12", "NaN", args(num(math.Inf(-1)))}, {"12", "NaN", args(num(4294967312))}, {"12", "NaN", args(num(1e300))},
		{"", "NaN", nil}, {" ", "NaN", nil}, {"-", "NaN", nil}, {"+", "NaN", nil}, {"x", "NaN", nil}, {".5", "NaN", nil}, {"Infinity", "NaN", nil},
		{"--1", "NaN", nil}, {"+-1", "NaN", nil}, {"- 1", "NaN", nil},
		{"\t\n\v\f\r  \ufeff7", "7", nil}, {"\u20287", "NaN", nil}, {"\x007", "NaN", nil},
		{"-12px", "-12", nil}, {"+12e5", "12", nil}, {"1.9", "1", nil}, {"0012", "12", nil}, {"-0", "-0", nil}, {"+0", "0", nil}, {"-00x1", "-0", nil},
		{"1_0", "1", nil}, {"12 13", "12", nil}, {"9a", "9", nil}, {"a9", "NaN", nil}, {"é", "NaN", nil}, {"1é", "1", nil}, {"１", "NaN", nil},
		{"0x1F", "31", nil}, {"0X1f", "31", nil}, {"-0x1F", "-31", nil}, {"+0X10", "16", nil}, {" 0xAbCdEfg", "1.1259375e+07", nil}, {"-0x0", "-0", nil},
		{"0x", "NaN", nil}, {"0xg", "NaN", nil}, {"-0x", "NaN", nil}, {"0x 1", "NaN", nil}, {"0x-1", "NaN", nil}, {"x1", "NaN", nil}, {"00x1", "0", nil}, {"0x0x1", "0", nil},
		{"0x1F", "31", args(num(16))}, {"0X1F", "31", args(num(16))}, {"1F", "31", args(num(16))}, {"fg", "15", args(num(16))}, {"g", "NaN", args(num(16))},
		{"-fF", "-255", args(num(16))}, {"0x", "NaN", args(num(16))}, {"00x1", "0", args(num(16))},
		{"0x1F", "0", args(num(10))}, {"-0x1F", "-0", args(num(10))}, {"1F", "1", args(num(10))}, {"F", "NaN", args(num(10))},
		{"9007199254740993", "9.007199254740992e+15", nil}, {"9007199254740995", "9.007199254740996e+15", nil},
		{"0x20000000000001", "9.007199254740992e+15", nil}, {"0x20000000000003", "9.007199254740996e+15", nil},
		{strings.Repeat("9", 400), "+Inf", nil}, {"-" + strings.Repeat("9", 400), "-Inf", nil}, {"-0x" + strings.Repeat("f", 400), "-Inf", nil},
		{strings.Repeat("0", 400) + "7", "7", nil},
	} {
		calls(t, h, c.want, parseInt, undefined(), append(args(str(c.text)), c.base...)...)
	}
	calls(t, h, "1", parseInt, undefined(), num(1e21))
	calls(t, h, "-1", parseInt, undefined(), num(-1.5e-7))
	calls(t, h, "NaN", parseInt, undefined())
	calls(t, h, "NaN", parseInt, undefined(), null(), num(16))
	calls(t, h, "5", parseInt, undefined(), list(t, h, num(5), num(6)))
	calls(t, h, "NaN", parseInt, undefined(), null())
	calls(t, h, "15", parseInt, undefined(), funcOf(t, h), num(16))
	calls(t, h, "218", parseInt, undefined(), str("da "), num(16))
}

// byPattern is what parseInt says by patterns and whole numbers of any size.
func byPattern(s string, base int) float64 {
	pattern := map[int]string{0: `^([-+]?)(?:0[xX]([0-9a-fA-F]*)|([0-9]+))`, 10: `^([-+]?)()([0-9]+)`, 16: `^([-+]?)(?:0[xX])?([0-9a-fA-F]*)()`}[base]
	found := regexp.MustCompile(pattern).FindStringSubmatch(strings.TrimLeft(s, "\t\n\v\f\r \u00a0\ufeff"))
	if found == nil || found[2]+found[3] == "" {
		return math.NaN()
	}
	whole, _ := new(big.Int).SetString(found[3], 10)
	if found[2] != "" {
		whole, _ = new(big.Int).SetString(found[2], 16)
	}
	x, _ := new(big.Float).SetInt(whole).Float64()
	if found[1] == "-" {
		return -x
	}
	return x
}

// P10.1: parseInt of many texts by dice.
func TestParseIntByDice(t *testing.T) {
	dice := rand.New(rand.NewSource(5))
	pieces := []string{"0", "0", "1", "7", "9", "a", "F", "g", "x", "X", "0x", "0X", "-", "+", " ", "\t", "\u00a0", ".", "e", "é"}
	found := 0
	for range 60000 {
		s := ""
		for range dice.Intn(7) {
			s += pieces[dice.Intn(len(pieces))]
		}
		if dice.Intn(3) == 0 {
			s += strconv.FormatUint(dice.Uint64(), 16) + strconv.FormatUint(dice.Uint64(), 10)
		}
		base := []int{0, 10, 16}[dice.Intn(3)]
		v, e := Call(nil, parseInt, undefined(), args(str(s), num(float64(base))))
		want := byPattern(s, base)
		if e != api.OK || v.Kind != api.Number || !esnum.Same(v.Num, want) {
			t.Fatalf("%q by %d: %v, %v, not %v", s, base, v, e, want)
		}
		if want == want {
			found++
		}
	}
	if found < 10000 {
		t.Error(found)
	}
}

// P10.1: abs, floor, ceil.
func TestRounded(t *testing.T) {
	h := esheap.New(100)
	for _, c := range []struct {
		x                float64
		abs, floor, ceil string
	}{
		{0, "0", "0", "0"}, {minusNought(), "0", "-0", "-0"}, {0.5, "0.5", "0", "1"}, {-0.5, "0.5", "-1", "-0"}, {1, "1", "1", "1"}, {-1, "1", "-1", "-1"},
		{1.5, "1.5", "1", "2"}, {-1.5, "1.5", "-2", "-1"}, {5e-324, "5e-324", "0", "1"}, {-5e-324, "5e-324", "-1", "-0"},
		{4503599627370495.5, "4.5035996273704955e+15", "4.503599627370495e+15", "4.503599627370496e+15"}, {-1e300, "1e+300", "-1e+300", "-1e+300"},
		{math.NaN(), "NaN", "NaN", "NaN"}, {math.Inf(1), "+Inf", "+Inf", "+Inf"}, {math.Inf(-1), "+Inf", "-Inf", "-Inf"},
	} {
		calls(t, h, c.abs, abs, undefined(), num(c.x), num(9))
		calls(t, h, c.floor, floor, undefined(), num(c.x), num(9))
		calls(t, h, c.ceil, ceil, undefined(), num(c.x), num(9))
	}
	for _, id := range []int{abs, floor, ceil} {
		calls(t, h, "NaN", id, undefined())
		calls(t, h, "NaN", id, undefined(), record(t, h))
		calls(t, h, "0", id, undefined(), null())
		calls(t, h, "1", id, undefined(), yes())
		calls(t, h, "31", id, undefined(), str(" 0x1F "))
		calls(t, h, "7", id, undefined(), list(t, h, str("7")))
	}
}

// P10.1: max and min.
func TestGreatestAndLeast(t *testing.T) {
	h := esheap.New(100)
	inf, nan := math.Inf(1), math.NaN()
	for _, c := range []struct {
		all      []api.Value
		max, min string
	}{
		{nil, "-Inf", "+Inf"}, {args(num(3)), "3", "3"}, {args(num(3), num(-7), num(5)), "5", "-7"},
		{args(num(nan)), "NaN", "NaN"}, {args(num(1), num(nan), num(2)), "NaN", "NaN"}, {args(num(nan), num(1)), "NaN", "NaN"},
		{args(num(inf), num(nan)), "NaN", "NaN"}, {args(num(nan), num(inf)), "NaN", "NaN"}, {args(num(-inf), num(nan)), "NaN", "NaN"}, {args(num(nan), num(-inf)), "NaN", "NaN"},
		{args(num(inf), num(-inf)), "+Inf", "-Inf"}, {args(num(-inf)), "-Inf", "-Inf"}, {args(num(inf)), "+Inf", "+Inf"},
		{args(num(0), num(minusNought())), "0", "-0"}, {args(num(minusNought()), num(0)), "0", "-0"}, {args(num(minusNought())), "-0", "-0"}, {args(num(0)), "0", "0"},
		{args(str("12"), num(3)), "12", "3"}, {args(str("a"), num(3)), "NaN", "NaN"}, {args(undefined()), "NaN", "NaN"}, {args(null(), yes()), "1", "0"},
		{args(list(t, h, num(9)), list(t, h)), "9", "0"}, {args(num(1), record(t, h)), "NaN", "NaN"},
	} {
		calls(t, h, c.max, greatest, undefined(), c.all...)
		calls(t, h, c.min, least, undefined(), c.all...)
	}
}

// P10.1: keys, of all objects.
func TestKeys(t *testing.T) {
	h := esheap.New(200)
	o := record(t, h, "b", num(1), "", num(2), "a", undefined(), "0", num(3), "length", num(4))
	calls(t, h, "['b', '', 'a', '0', 'length']", keys, undefined(), o)
	a := list(t, h, num(5), undefined())
	put(t, h, a, "x", num(1))
	put(t, h, a, "01", num(1))
	calls(t, h, "['0', '1', 'x', '01']", keys, undefined(), a)
	f := funcOf(t, h)
	calls(t, h, "[]", keys, undefined(), f)
	put(t, h, f, "p", num(1))
	calls(t, h, "['p']", keys, undefined(), f)
	calls(t, h, "[]", keys, undefined(), list(t, h))
	calls(t, h, "[]", keys, undefined(), record(t, h))
	child, _ := h.Plain(o.Ref)
	calls(t, h, "[]", keys, undefined(), object(child))
	for _, v := range args(undefined(), null(), yes(), num(0), str("abc"), builtin(1)) {
		changesNothing(t, h, "ErrThrow", keys, undefined(), v, o)
	}
	changesNothing(t, h, "ErrThrow", keys, o)
	// A key of the heap may be any string; a Text has whole units.
	odd := record(t, h)
	if e := h.Put(odd.Ref, "\x00ab", num(1)); e != api.OK {
		t.Fatal(e)
	}
	calls(t, h, "['a']", keys, undefined(), odd)
}

// P10.1: keys takes a cell for the array and one for each key, or none.
func TestKeysWithoutCells(t *testing.T) {
	for cells := range 6 {
		h := leaves(t, cells, func(h *esheap.Heap) { record(t, h, "a", num(1), "b", num(2), "c", num(3)) })
		if cells < 4 {
			changesNothing(t, h, "ErrHeap", keys, undefined(), object(0))
			continue
		}
		calls(t, h, "['a', 'b', 'c']", keys, undefined(), object(0))
		if n, left := h.Size(); n != 2 || left != cells-4 {
			t.Error(n, left)
		}
	}
}

// P10.1: create, of all prototypes.
func TestCreate(t *testing.T) {
	h := esheap.New(100)
	o, a, f := record(t, h, "k", num(1)), list(t, h), funcOf(t, h)
	for i, proto := range args(o, a, f) {
		v, e := Call(h, create, undefined(), args(proto, num(1)))
		if e != api.OK || v != object(3+i) || h.Kind(v.Ref) != 1 || h.Proto(v.Ref) != proto.Ref || len(h.Keys(v.Ref)) != 0 {
			t.Error(v, e)
		}
	}
	v, e := Call(h, create, undefined(), args(null()))
	if e != api.OK || v != object(6) || h.Kind(6) != 1 || h.Proto(6) != -1 || len(h.Keys(6)) != 0 {
		t.Error(v, e)
	}
	if got, ok := h.Get(3, wideOf("k")); !ok || got != num(1) {
		t.Error(got, ok)
	}
	for _, v := range args(undefined(), yes(), num(0), str("abc"), builtin(1)) {
		changesNothing(t, h, "ErrThrow", create, undefined(), v, o)
	}
	changesNothing(t, h, "ErrThrow", create, o)
	full := leaves(t, 0, func(h *esheap.Heap) { record(t, h) })
	changesNothing(t, full, "ErrHeap", create, undefined(), object(0))
	changesNothing(t, full, "ErrHeap", create, undefined(), null())
	changesNothing(t, full, "ErrThrow", create, undefined(), num(1))
}

// P10.1: isArray.
func TestIsArray(t *testing.T) {
	h := esheap.New(100)
	calls(t, h, "true", isAnArray, undefined(), list(t, h))
	calls(t, h, "true", isAnArray, undefined(), list(t, h, num(1)), num(1))
	calls(t, h, "false", isAnArray, list(t, h))
	for _, v := range args(undefined(), null(), yes(), num(2), str("[]"), record(t, h, "length", num(0)), funcOf(t, h), builtin(40)) {
		calls(t, h, "false", isAnArray, list(t, h), v, list(t, h))
	}
}
