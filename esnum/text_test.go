package esnum

import (
	"math"
	"math/big"
	"math/rand"
	"strconv"
	"strings"
	"testing"
)

// P4.1: texts of ordinary numbers, of the edges, and of those at which the form changes.
func TestText(t *testing.T) {
	for _, c := range []struct {
		x    float64
		want string
	}{
		{math.NaN(), "NaN"}, {oddNaN(), "NaN"}, {0, "0"}, {minusNought(), "0"},
		{math.Inf(1), "Infinity"}, {math.Inf(-1), "-Infinity"},
		{1, "1"}, {-1, "-1"}, {100, "100"}, {0.1, "0.1"}, {-1.5, "-1.5"}, {123e-20, "1.23e-18"}, {1.0 / 3, "0.3333333333333333"},
		{4503599627370495.5, "4503599627370495.5"}, {4503599627370497, "4503599627370497"}, {12345.678, "12345.678"}, {1000000.5, "1000000.5"}, {10.01, "10.01"},
		{least, "5e-324"}, {-least, "-5e-324"}, {2 * least, "1e-323"}, {3 * least, "1.5e-323"},
		{leastFull, "2.2250738585072014e-308"}, {greatestSub, "2.225073858507201e-308"},
		{greatest, "1.7976931348623157e+308"}, {-greatest, "-1.7976931348623157e+308"},

		// n at 21 and 22: one digit, some, and all.
		{1e20 + 0, "100000000000000000000"}, {1e21, "1e+21"}, {-1e21, "-1e+21"}, {1e22, "1e+22"}, {123e18, "123000000000000000000"}, {123e19, "1.23e+21"},
		{123456789012345680000, "123456789012345680000"}, {1234567890123456800000, "1.2345678901234568e+21"},
		{999999999999999900000, "999999999999999900000"}, {999999999999999999999, "1e+21"}, {math.Nextafter(1e21, 0), "999999999999999900000"},
		// n at 0 and 1.
		{0.12, "0.12"}, {1.2, "1.2"}, {0.9999999999999999, "0.9999999999999999"}, {1.0000000000000002, "1.0000000000000002"}, {0.012, "0.012"},
		{12, "12"}, {120, "120"}, {12.5, "12.5"}, {0.5, "0.5"}, {9.5, "9.5"},
		// n at -5 and -6.
		{0.000001, "0.000001"}, {0.0000001, "1e-7"}, {-0.0000001, "-1e-7"}, {0.00000123, "0.00000123"}, {0.000000123, "1.23e-7"}, {-0.0000015, "-0.0000015"},
		{0.0000012345678901234567, "0.0000012345678901234567"}, {1.2345678901234566e-7, "1.2345678901234566e-7"},
		{0.00000099999999999999, "9.9999999999999e-7"}, {0.00001, "0.00001"},
		// One digit alone ahead of e, and two.
		{5e100, "5e+100"}, {-5e-100, "-5e-100"}, {5.5e100, "5.5e+100"}, {1e300, "1e+300"}, {1e-9, "1e-9"}, {1e-10, "1e-10"}, {9e-99, "9e-99"},

		// Where one digit fewer would do on one side only, or two stand equally near.
		{9007199254740992, "9007199254740992"}, {9007199254740994, "9007199254740994"}, {18014398509481984, "18014398509481984"}, {1152921504606846976, "1152921504606847000"},
		{1125899906842624.25, "1125899906842624.2"}, {1125899906842624.75, "1125899906842624.8"}, {1125899906842625.25, "1125899906842625.2"}, {2251799813685247.75, "2251799813685247.8"},
		{5.684341886080802e-14, "5.684341886080802e-14"}, {2e-44, "2e-44"}, {9.5367431640625e-7, "9.5367431640625e-7"}, {5e-7, "5e-7"}, {9007199254740993e15, "9.007199254740993e+30"},
		{math.Ldexp(1, 89), "6.189700196426902e+26"}, {math.Ldexp(1, -1022+51), "5.010420900022432e-293"}, {math.Ldexp(1, 1023), "8.98846567431158e+307"},
	} {
		if got := Text(c.x); got != c.want {
			t.Errorf("Text of %v: %s, not %s", c.x, got, c.want)
		}
	}
}

// P4.1: all places of the point from 10^-330 to 10^310, with few digits, are written in the chapter's form.
func TestTextPutsThePoint(t *testing.T) {
	for _, digits := range []string{"1", "12", "908", "12345", "123456789012345"} {
		k := len(digits)
		for n := -300; n <= 300; n++ {
			x, err := strconv.ParseFloat(digits+"e"+strconv.Itoa(n-k), 64)
			if err != nil {
				t.Fatal(err)
			}
			if got := Text(x); got != layout(digits, n) {
				t.Errorf("%s, n %d: %s, not %s", digits, n, got, layout(digits, n))
			}
			if got := Text(-x); got != "-"+layout(digits, n) {
				t.Errorf("-%s, n %d: %s", digits, n, got)
			}
		}
	}
}

// layout is the chapter's rule on where the point stands, taken word for word.
func layout(s string, n int) string {
	k := len(s)
	if k <= n && n <= 21 {
		return s + strings.Repeat("0", n-k)
	}
	if 0 < n && n <= 21 {
		return s[:n] + "." + s[n:]
	}
	if -6 < n && n <= 0 {
		return "0." + strings.Repeat("0", -n) + s
	}
	out := s[:1]
	if k > 1 {
		out += "." + s[1:]
	}
	if n-1 < 0 {
		return out + "e-" + strconv.Itoa(1-n)
	}
	return out + "e+" + strconv.Itoa(n-1)
}

// ten is 10 to the e.
func ten(e int) *big.Rat {
	p := new(big.Int).Exp(big.NewInt(10), big.NewInt(int64(max(e, -e))), nil)
	if e < 0 {
		return new(big.Rat).SetFrac(big.NewInt(1), p)
	}
	return new(big.Rat).SetInt(p)
}

// beside are the two whole numbers around x times 10 to the -e, as fractions of the same size as x.
func beside(x *big.Rat, e int) (lower, upper *big.Int) {
	q := new(big.Rat).Mul(x, ten(-e))
	lower = new(big.Int).Quo(q.Num(), q.Denom())
	return lower, new(big.Int).Add(lower, big.NewInt(1))
}

// sized is the n for which x is from 10^(n-1) on, and below 10^n.
func sized(x *big.Rat) int {
	f, _ := x.Float64()
	n := int(math.Floor(math.Log10(f)))
	for x.Cmp(ten(n)) >= 0 {
		n++
	}
	return n
}

// slowText is the text of a finite x above 0 by the chapter's words, tried from one digit on.
func slowText(x float64) string {
	r := new(big.Rat).SetFloat64(x)
	size := sized(r)
	for k := 1; ; k++ {
		var best *big.Int
		var gap *big.Rat
		lower, upper := beside(r, size-k)
		for _, s := range []*big.Int{lower, upper} {
			said := new(big.Rat).Mul(new(big.Rat).SetInt(s), ten(size-k))
			if f, _ := said.Float64(); f != x {
				continue
			}
			far := said.Sub(said, r)
			far.Abs(far)
			if best == nil || far.Cmp(gap) < 0 || far.Cmp(gap) == 0 && s.Bit(0) == 0 {
				best, gap = s, far
			}
		}
		if best != nil {
			// 10^k, above the k digits, is a 1 one place ahead.
			digits := best.String()
			return layout(strings.TrimRight(digits, "0"), size+len(digits)-k)
		}
	}
}

// P4.1: the least digits, the nearest, the even ones: as they are found by trying.
func TestTextByTrying(t *testing.T) {
	dice := rand.New(rand.NewSource(41))
	list := numbers(1000)
	for range 2000 {
		// Here quarters stand equally near to two texts of their least count of digits.
		list = append(list, float64(1<<50+dice.Int63n(1<<50))+0.25+0.5*float64(dice.Intn(2)))
	}
	for e := -323; e < 309; e++ {
		x, _ := strconv.ParseFloat("1e"+strconv.Itoa(e), 64)
		list = append(list, x, math.Nextafter(x, 0), math.Nextafter(x, greatest))
	}
	for _, x := range list {
		if x > 0 && x <= greatest {
			if got, want := Text(x), slowText(x); got != want {
				t.Errorf("Text of %v: %s, not %s", x, got, want)
			}
			if got, want := Text(-x), "-"+Text(x); got != want {
				t.Errorf("Text of %v: %s, not %s", -x, got, want)
			}
		}
	}
}

// P4.2: there and back; -0 comes back as +0.
func TestThereAndBack(t *testing.T) {
	for _, x := range numbers(10000) {
		got := Number(wide(t, Text(x)))
		want := x
		if x == 0 {
			want = 0
		}
		if !same(got, want) {
			t.Errorf("of %v: %s, and back %v", x, Text(x), got)
		}
	}
}

// P4.2: no text of fewer digits says x: not those at its sides, of one digit fewer, either.
func TestNoFewerDigits(t *testing.T) {
	for _, x := range numbers(1000) {
		if !(x > 0 && x <= greatest) {
			continue
		}
		digits := significant(Text(x))
		r := new(big.Rat).SetFloat64(x)
		e := sized(r) - (len(digits) - 1)
		lower, upper := beside(r, e)
		for _, s := range []*big.Int{lower, upper} {
			text := s.String() + "e" + strconv.Itoa(e)
			if shorter := significant(text); len(shorter) < len(digits) && same(Number(wide(t, text)), x) {
				t.Errorf("%s says what %s says", text, Text(x))
			}
		}
	}
}

// significant is a text's digits from the first to the last one that isn't 0.
func significant(text string) string {
	front, _, _ := strings.Cut(text, "e")
	return strings.Trim(strings.Replace(front, ".", "", 1), "0")
}

// P4.3: whole numbers of at most 15 digits.
func TestTextOfWholeNumbers(t *testing.T) {
	dice := rand.New(rand.NewSource(43))
	list := []int64{0, 999999999999999, 100000000000000, 123456789012345, 900000000000001}
	for n := int64(1); n < 1e15; n *= 10 {
		list = append(list, n, n-1, n+1, 5*n, dice.Int63n(9*n)+n)
	}
	for range 20000 {
		list = append(list, dice.Int63n(1e15), dice.Int63n(1e6))
	}
	for _, n := range list {
		if n >= 1e15 {
			t.Fatal(n)
		}
		if got := Text(float64(n)); got != strconv.FormatInt(n, 10) {
			t.Errorf("%d: %s", n, got)
		}
		if got := Text(float64(-n)); got != strconv.FormatInt(-n, 10) {
			t.Errorf("%d: %s", -n, got)
		}
	}
}
