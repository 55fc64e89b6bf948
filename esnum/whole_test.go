package esnum

import (
	"math"
	"math/big"
	"math/rand"
	"regexp"
	"strconv"
	"strings"
	"testing"
)

// A second reader, made of patterns and of fractions of any length.
type patterns struct {
	blanks, endless, sixteens, digits *regexp.Regexp
}

func newPatterns() patterns {
	return patterns{
		blanks:   regexp.MustCompile(`^[\t\n\v\f\r \x{A0}\x{FEFF}]*|[\t\n\v\f\r \x{A0}\x{FEFF}]*$`),
		endless:  regexp.MustCompile(`^[+-]?Infinity$`),
		sixteens: regexp.MustCompile(`^0[xX]([0-9a-fA-F]+)$`),
		digits:   regexp.MustCompile(`^[+-]?(?:([0-9]+)\.?([0-9]*)|\.([0-9]+))(?:[eE]([+-]?[0-9]+))?$`),
	}
}

// number is what a text of at most a thousand digits says.
func (p patterns) number(text string) float64 {
	text = p.blanks.ReplaceAllString(text, "")
	sign := 1.0
	if strings.HasPrefix(text, "-") {
		sign = -1
	}
	if text == "" {
		return 0
	}
	if p.endless.MatchString(text) {
		return math.Inf(int(sign))
	}
	if m := p.sixteens.FindStringSubmatch(text); m != nil {
		n, _ := new(big.Int).SetString(m[1], 16)
		return nearestOf(new(big.Rat).SetInt(n))
	}
	m := p.digits.FindStringSubmatch(text)
	if m == nil {
		return math.NaN()
	}
	behind := m[2] + m[3]
	n, _ := new(big.Int).SetString(m[1]+behind, 10)
	power, _ := strconv.Atoi(m[4])
	power = max(-3000, min(power, 3000)) // so far out all are 0 or an infinity
	return math.Copysign(nearestOf(new(big.Rat).Mul(new(big.Rat).SetInt(n), ten(power-len(behind)))), sign)
}

func nearestOf(r *big.Rat) float64 {
	f, _ := r.Float64()
	return f
}

// held holds Number against the second reader; it says whether the text says a number.
func (p patterns) held(t *testing.T, text string) bool {
	t.Helper()
	want := p.number(text)
	got := Number(wide(t, text))
	if !same(got, want) {
		t.Errorf("Number of %q: %v, not %v", text, got, want)
	}
	return want == want
}

// P4.1: all texts of up to six of the characters that a number may have.
func TestAllShortTexts(t *testing.T) {
	p := newPatterns()
	count := 0
	var grow func(text string, more int)
	grow = func(text string, more int) {
		if p.held(t, text) {
			count++
		}
		if more == 0 {
			return
		}
		for _, c := range []string{"0", "7", ".", "e", "+", "-", "x", "F", " "} {
			grow(text+c, more-1)
		}
	}
	grow("", 6)
	if count < 4000 {
		t.Error("hardly any numbers", count)
	}
}

// P4.1: texts put together by dice, most of them near a number's, of up to some hundred digits.
func TestManyTexts(t *testing.T) {
	p := newPatterns()
	dice := rand.New(rand.NewSource(44))
	pick := func(list ...string) string { return list[dice.Intn(len(list))] }
	digits := func(most int) string {
		var b strings.Builder
		for range dice.Intn(most + 1) {
			b.WriteString(pick("0", "0", "9", strconv.Itoa(dice.Intn(10))))
		}
		return b.String()
	}
	count := 0
	for range 40000 {
		text := pick("", "", "", "-", "+") + digits(25) + pick("", ".") + digits(25)
		if dice.Intn(2) == 0 {
			text += pick("e", "E") + pick("", "-", "+") + strconv.Itoa(dice.Intn(350))
		}
		switch dice.Intn(8) {
		case 0:
			text = pick("0x", "0X") + strconv.FormatUint(dice.Uint64()>>dice.Intn(64), 16) + pick("", "0", "8", strings.Repeat("0", dice.Intn(300))) + pick("", "1", "F")
		case 1:
			at := dice.Intn(len(text) + 1)
			text = text[:at] + pick(" ", ".", "e", "-", "x", "_", "\u00a0", "\u0130", "Infinity") + text[at:]
		case 2:
			text = pick("-", "+", "", " ", "--") + "Infinity"[:8-dice.Intn(8)/6] + pick("", " ", "0", "y")
		}
		text = pick("", "", " ", "\ufeff\n", "\u2003") + text + pick("", "", "\t", "\u00a0\r", "\u0085")
		if p.held(t, text) {
			count++
		}
	}
	if count < 15000 {
		t.Error("hardly any numbers", count)
	}
}

// P4.1: texts near the halves between two numbers of any size, by dice.
func TestTextsNearHalves(t *testing.T) {
	p := newPatterns()
	dice := rand.New(rand.NewSource(45))
	for range 1500 {
		bits := dice.Uint64() >> 12
		x := math.Float64frombits(uint64(dice.Intn(2046))<<52 | bits)
		if dice.Intn(2) == 0 {
			x = math.Ldexp(1+float64(dice.Intn(1<<20))/(1<<20), dice.Intn(120)-60)
		}
		half := new(big.Rat).SetFloat64(x)
		half.Add(half, new(big.Rat).SetFloat64(math.Nextafter(x, math.Inf(1))))
		half.Quo(half, big.NewRat(2, 1))
		text := half.FloatString(1080)
		if !strings.HasPrefix(text, "0.0") {
			text = strings.TrimRight(text, "0")
		}
		last := len(text) - 1
		for _, near := range []string{text, text + "1", text + strings.Repeat("0", dice.Intn(200)) + "1", text[:last] + "0", "-" + text, text + "e-1", text + "e1"} {
			p.held(t, near)
		}
	}
}

// P4.1: no bytes, however odd, make a call panic, and all end.
func TestNoBytesPanic(t *testing.T) {
	dice := rand.New(rand.NewSource(46))
	const lows = "0x1.eE+-I \xff\xd8\xa0"
	for range 200000 {
		w := make([]byte, dice.Intn(12))
		for i := range w {
			if i%2 == 1 || dice.Intn(20) == 0 {
				w[i] = lows[dice.Intn(len(lows))]
			}
		}
		got := Number(string(w))
		if whole := string(w[:len(w)/2*2]); !same(got, Number(whole)) {
			t.Errorf("of the bytes %q: %v, without the last one %v", w, got, Number(whole))
		}
		Text(got)
		Int32(got)
	}
}
