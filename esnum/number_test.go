package esnum

import (
	"math"
	"math/big"
	"strings"
	"testing"
)

// A reading is a text and the number that it says.
type reading struct {
	text string
	want float64
}

// read holds Number against readings, as they stand, and with blanks at both ends.
func read(t *testing.T, list []reading) {
	t.Helper()
	for _, c := range list {
		for _, text := range []string{c.text, " " + c.text, c.text + "\n", "\t\u00a0" + c.text + "\ufeff\r"} {
			if got := Number(wide(t, text)); !same(got, c.want) {
				t.Errorf("Number of %.60q (%d bytes): %v, not %v", text, len(text), got, c.want)
			}
		}
	}
}

// P4.1: what says a number: signs, points and e, with and without digits.
func TestNumber(t *testing.T) {
	read(t, []reading{
		{"", 0}, {"0", 0}, {"-0", minusNought()}, {"+0", 0}, {"00", 0}, {"-000.000e-5", minusNought()}, {".0", 0}, {"-.0", minusNought()}, {"-0.", minusNought()},
		{"12", 12}, {"+12", 12}, {"-12", -12}, {"0012", 12}, {"08", 8}, {"-010", -10},
		{"5.", 5}, {"-5.", -5}, {".5", 0.5}, {"+.5", 0.5}, {"-.5", -0.5}, {"0.5", 0.5}, {"1.25", 1.25}, {"00.50", 0.5}, {"10.010", 10.01},
		{".5e1", 5}, {"5.e1", 50}, {"5.E-1", 0.5}, {"5e1", 50}, {"5E1", 50}, {"5e+1", 50}, {"5e-1", 0.5}, {"-5.5E+2", -550}, {"1e0", 1}, {"1e00003", 1000}, {"1e-00003", 0.001}, {"0e5", 0}, {"-0e-5", minusNought()},
		{"123456789", 123456789}, {"1234567890123456789", 1234567890123456789}, {"0.1", 0.1}, {"3.14159", 3.14159}, {"1e21", 1e21}, {"1e22", 1e22}, {"1e23", 1e23},
		{"1000000000000000000000000", 1e24}, {"0.000000000000000000000001", 1e-24}, {"100e-2", 1}, {"0.01e2", 1},
		{"Infinity", math.Inf(1)}, {"+Infinity", math.Inf(1)}, {"-Infinity", math.Inf(-1)},
	})
}

// P4.1: texts that say no number.
func TestNoNumber(t *testing.T) {
	var list []reading
	for _, text := range strings.Split(strings.Join([]string{
		". - + e E -. +. .e .e1 e1 E5 -e1 .. 1.. ..1 1.2.3 1..2 -.e1 +e",
		"1e 1E 1e+ 1e- 1.e .5e 1e. 1e1. 1e.5 1e1.5 1e1e1 1ee1 1e+-1 1e--1 1e1+ 1e+1- 1e1f",
		"--1 ++1 +-1 -+1 1- 1+ 1-1 5-",
		"1_0 _1 1_ 1,5 1'0 1n 1f 1d 0b1 0B1 0o7 0O7 07_1 $1 1% #1 1x x1 1/2 (1)",
		"0x 0X -0x -0x1 +0x1 +0X1 -0X -0x0 0xg 0x1g 0xG1 0x1.0 0x1. 0x.1 0x1p1 0x1p0 0x1_0 0x_1 0x0x1 0x-1 0x+1 00x1 1x1 0xx1 x1 0x1h 0x/ 0x: 0x@ 0x` 0xÀ 0xI",
		"infinity INFINITY -infinity +infinity Inf inf -Inf +Inf Infinit InfinityX Infinity1 Infinitye1 Infinity. --Infinity +-Infinity Infinit\u0179 iNFINITY infinitY 1Infinity 0Infinity Infinity0 0xInfinity",
		"NaN nan -NaN null true undefined Number",
		"\u0660 \u0661\u0662 \uff11 1\u0130 \u0130 \u0131\u0132 1\u042e5 1\u01655 0\u01781 \u012d1 \u012b1 0x\u0131 \u0149nfinity 0\u0078\u0161 \u2212\u0031 1\u2070",
	}, " "), " ") {
		list = append(list, reading{text, math.NaN()})
	}
	read(t, list)
	if len(list) < 120 {
		t.Error(len(list))
	}
}

// P4.1: each of the blanks at both ends and inside, and what isn't one: every unit there is.
func TestBlanks(t *testing.T) {
	blanks := map[int]bool{9: true, 10: true, 11: true, 12: true, 13: true, 32: true, 0xA0: true, 0xFEFF: true}
	for u := range 1 << 16 {
		unit := string([]byte{byte(u >> 8), byte(u)})
		seven := "\x00\x37"
		want := math.NaN()
		if blanks[u] {
			want = 7
		}
		for _, w := range []string{seven + unit, unit + seven, unit + unit + seven, seven + unit + unit, unit + seven + unit} {
			if got := Number(w); !same(got, want) && !(u >= '0' && u <= '9' || u == '+' || u == '-' || u == '.') {
				t.Errorf("%x beside 7: %v, in %q", u, got, w)
			}
		}
		if got := Number(seven + unit + seven); got == got && !(u >= '0' && u <= '9' || u == '.' || u == 'e' || u == 'E') {
			t.Errorf("%x between 7 and 7: %v", u, got)
		}
		if got := Number(unit); blanks[u] != (got == 0) && u != '0' {
			t.Errorf("%x alone: %v", u, got)
		}
		if got := Number(unit + unit); blanks[u] != (got == 0) && u != '0' {
			t.Errorf("%x twice: %v", u, got)
		}
	}
	for u := range blanks {
		b := string([]byte{byte(u >> 8), byte(u)})
		for _, text := range []string{"- 1", "1 e1", "1e 1", "1e+ 1", "1. 5", "1 .5", ". 5", "0 x1", "0x 1", "0x1 1", "1 1", "Infin ity", "- Infinity"} {
			w := strings.ReplaceAll(wide(t, text), "\x00 ", b)
			if got := Number(w); got == got {
				t.Errorf("%x in %q: %v", u, text, got)
			}
		}
	}
}

// P4.1: digits of sixteen, of both sizes, none, many, with a sign.
func TestDigitsOfSixteen(t *testing.T) {
	read(t, []reading{
		{"0x1F", 31}, {"0x1f", 31}, {"0X1F", 31}, {"0X0", 0}, {"0x0", 0}, {"0x00000", 0}, {"0xabcdef", 0xabcdef}, {"0xABCDEF", 0xabcdef}, {"0xaBcDeF0123456789", 0xabcdef0123456789},
		{"0x9", 9}, {"0xA", 10}, {"0xF", 15}, {"0xa", 10}, {"0xf", 15}, {"0x1e5", 0x1e5}, {"0x1E5", 0x1e5}, {"0xe", 14}, {"0x10", 16}, {"0x" + strings.Repeat("0", 5000) + "12", 18},
		{"0x1fffffffffffff", 1<<53 - 1}, {"0x20000000000000", 1 << 53},
		// Halves, that turn to the even one, and what is a little more or less.
		{"0x20000000000001", 1 << 53}, {"0x20000000000003", 1<<53 + 4}, {"0x3fffffffffffff", 1 << 54}, {"0x200000000000011", 1<<57 + 32}, {"0x20000000000000f", 1 << 57},
		{"0x200000000000010", 1 << 57}, {"0x200000000000030", 1<<57 + 64},
		{"0x20000000000001" + strings.Repeat("0", 60), math.Ldexp(1, 53+240)}, {"0x20000000000001" + strings.Repeat("0", 59) + "1", math.Ldexp(1<<52+1, 1+240)},
		{"0x20000000000001" + strings.Repeat("0", 59) + "8", math.Ldexp(1<<52+1, 1+240)}, {"0x20000000000000" + strings.Repeat("f", 60), math.Ldexp(1, 53+240)},
		{"0x10000000000000800", math.Ldexp(1, 64)}, {"0x10000000000000801", math.Ldexp(1<<52+1, 12)}, {"0x1000000000000080000000001", math.Ldexp(1<<52+1, 44)}, {"0x10000000000001800", math.Ldexp(1<<52+2, 12)},
		{"0xf000000000000400", math.Ldexp(15, 60)}, {"0xf000000000000401", math.Ldexp(15<<49+1, 11)}, {"0xf0000000000004001", math.Ldexp(15<<49+1, 15)},
		// The greatest number, half its last place beyond, and less than that.
		{"0xfffffffffffff8" + strings.Repeat("0", 242), greatest}, {"0xfffffffffffffb" + strings.Repeat("f", 242), greatest}, {"0xfffffffffffffc" + strings.Repeat("0", 242), math.Inf(1)},
		{"0x" + strings.Repeat("F", 256), math.Inf(1)}, {"0x" + strings.Repeat("f", 100000), math.Inf(1)}, {"0x1" + strings.Repeat("0", 256), math.Inf(1)}, {"0x8" + strings.Repeat("0", 255), math.Ldexp(1, 1023)},
		{"0x", math.NaN()}, {"0X", math.NaN()}, {"-0x1F", math.NaN()}, {"+0x1F", math.NaN()}, {"0x-1F", math.NaN()},
		{"0x" + strings.Repeat("f", 1000) + "g", math.NaN()}, {"0x" + strings.Repeat("0", 1000) + ".", math.NaN()},
	})
}

// halved is all digits of m divided by 2 power times.
func halved(m int64, power uint) string {
	under := new(big.Int).Lsh(big.NewInt(1), power)
	return new(big.Rat).SetFrac(big.NewInt(m), under).FloatString(int(power))
}

// P4.1: halves, where two numbers are equally near, and what is a little more or less, far behind the point.
func TestHalves(t *testing.T) {
	zeros, nines := strings.Repeat("0", 5000), strings.Repeat("9", 5000)
	read(t, []reading{
		{"9007199254740993", 1 << 53}, {"9007199254740995", 1<<53 + 4}, {"9007199254740997", 1<<53 + 4}, {"-9007199254740993", -(1 << 53)},
		{"9007199254740993." + zeros, 1 << 53}, {"9007199254740993." + zeros + "1", 1<<53 + 2}, {"9007199254740992." + nines, 1 << 53},
		{"9007199254740995." + zeros, 1<<53 + 4}, {"9007199254740994." + nines, 1<<53 + 2}, {"-9007199254740993." + zeros + "1", -(1<<53 + 2)},
		{"9007199254740993" + zeros + "e-5000", 1 << 53}, {"9007199254740993" + zeros + "1e-5001", 1<<53 + 2}, {"0." + zeros + "9007199254740993e5016", 1 << 53},
		{"0." + zeros + "9007199254740993" + zeros + "1e5016", 1<<53 + 2}, {zeros + "9007199254740993" + zeros + "." + zeros + "1e-5000", 1<<53 + 2},
		{"4503599627370496.5", 1 << 52}, {"4503599627370497.5", 1<<52 + 2}, {"4503599627370496.50" + zeros + "1", 1<<52 + 1}, {"4503599627370497.4" + nines, 1<<52 + 1},
		{"1.00000000000000011102230246251565404236316680908203125", 1}, {"1.00000000000000011102230246251565404236316680908203124", 1}, {"1.00000000000000011102230246251565404236316680908203126", 1.0000000000000002},
		{"1.00000000000000033306690738754696212708950042724609375", 1.0000000000000004}, {"1.00000000000000033306690738754696212708950042724609374", 1.0000000000000002},
	})
}

// P4.1: of all halves these have the most digits, 768; the digits behind them tell on which side a text's number is.
func TestHalvesOfMostDigits(t *testing.T) {
	zeros, nines := strings.Repeat("0", 5000), strings.Repeat("9", 5000)
	up, down := halved(1<<54-1, 1075), halved(1<<54-3, 1075)
	digits := strings.TrimLeft(up, "0.")
	if len(digits) != 768 || !strings.HasSuffix(digits, "5") {
		t.Fatal(len(digits))
	}
	upper, between, lower := math.Ldexp(1, -1021), math.Ldexp(1<<53-1, -1074), math.Ldexp(1<<53-2, -1074)
	read(t, []reading{
		{up, upper}, {up + zeros, upper}, {up + zeros + "1", upper}, {up[:len(up)-1] + "4" + nines, between}, {up[:len(up)-1] + "4", between},
		{down, lower}, {down + zeros, lower}, {down + zeros + "1", between}, {down + "1", between}, {down + "00001" + zeros, between}, {down[:len(down)-1] + "4" + nines, lower},
		{digits + "e-1075", upper}, {"-" + digits + zeros + "e-6075", -upper}, {digits + zeros + "1e-6076", upper}, {"0.00" + digits + "e-305", upper},
		{strings.TrimLeft(down, "0.") + "e-1075", lower}, {strings.TrimLeft(down, "0.") + zeros + "1e-6076", between}, {strings.TrimLeft(down, "0.") + ".00e-1075", lower}, {strings.TrimLeft(down, "0.") + ".001e-1075", between},
	})
}

// P4.1: what is nearer to 0 than the least number, and beyond the greatest one.
func TestBeyondTheNumbers(t *testing.T) {
	zeros, nines := strings.Repeat("0", 5000), strings.Repeat("9", 5000)
	nought := halved(1, 1075)
	most := new(big.Int).Lsh(big.NewInt(1<<54-1), 970) // half a last place beyond the greatest number
	beyond, short := most.String(), new(big.Int).Sub(most, big.NewInt(1)).String()
	read(t, []reading{
		{nought, 0}, {"-" + nought, minusNought()}, {nought + zeros, 0}, {nought + zeros + "1", least}, {"-" + nought + "1", -least}, {nought[:len(nought)-1] + "4" + nines, 0},
		{halved(3, 1075), 2 * least}, {halved(1, 1074), least}, {halved(1, 1076), 0},
		{"5e-324", least}, {"3e-324", least}, {"2e-324", 0}, {"-2e-324", minusNought()}, {"2.4703282292062327e-324", 0}, {"2.4703282292062328e-324", least}, {"-1e-400", minusNought()}, {"1e-1000", 0}, {"9e-1001", 0}, {"1e-9999999999", 0},
		{"2.2250738585072011e-308", greatestSub}, {"2.2250738585072012e-308", leastFull}, {"1e-323", 2 * least},
		{beyond, math.Inf(1)}, {"-" + beyond, math.Inf(-1)}, {beyond + "." + zeros, math.Inf(1)}, {short, greatest}, {"-" + short, -greatest}, {short + "." + nines, greatest}, {short + nines + "e-5000", greatest},
		{"1.7976931348623157e308", greatest}, {"1.7976931348623158e308", greatest}, {"1.7976931348623159e308", math.Inf(1)}, {"1e308", 1e308}, {"1e309", math.Inf(1)}, {"1e400", math.Inf(1)}, {"-1e400", math.Inf(-1)},
	})
}

// P4.1: long texts of digits, and powers of many digits.
func TestLongTexts(t *testing.T) {
	zeros, nines := strings.Repeat("0", 300000), strings.Repeat("9", 300000)
	read(t, []reading{
		{zeros, 0}, {"-" + zeros, minusNought()}, {zeros + "7", 7}, {"." + zeros, 0}, {"1" + zeros + "e-300000", 1}, {"1" + zeros + "e-299999", 10}, {"." + zeros + "1e300001", 1}, {"0." + zeros + "25e300003", 250},
		{zeros + "." + zeros + "1", 0}, {"-." + zeros + "1", minusNought()}, {"1" + zeros, math.Inf(1)}, {nines, math.Inf(1)}, {"-" + nines, math.Inf(-1)}, {"0." + nines, 1}, {"4." + nines + "e0", 5},
		{"1" + zeros + "." + zeros + "e-300000", 1}, {zeros + "123." + zeros, 123}, {"1" + zeros + "e-300400", 0}, {"." + zeros + "1e300400", math.Inf(1)}, {"1" + zeros + "e-300300", 1e-300}, {"." + zeros + "1e300301", 1e300},
		{"1e" + zeros + "2", 100}, {"1e-" + zeros + "2", 0.01}, {"1e" + zeros, 1}, {"1e" + nines, math.Inf(1)}, {"-1e" + nines, math.Inf(-1)}, {"1e-" + nines, 0}, {"-1e-" + nines, minusNought()}, {"0e" + nines, 0}, {"-0e" + nines, minusNought()}, {"." + zeros + "e" + nines, 0},
		{"." + zeros + "1e" + nines, math.Inf(1)}, {"1" + zeros + "e-" + nines, 0},
		// Were a power counted in a type's circle, these would come to be 1.
		{"1e4294967296", math.Inf(1)}, {"1e-4294967296", 0}, {"1e18446744073709551616", math.Inf(1)}, {"1e-18446744073709551616", 0}, {"1e36893488147419103232", math.Inf(1)}, {"1e9223372036854775808", math.Inf(1)}, {"1e-9223372036854775808", 0},
		{zeros + "x", math.NaN()}, {nines + ".." + nines, math.NaN()}, {nines + "e", math.NaN()}, {"1e" + nines + ".", math.NaN()}, {"1e" + zeros + "-", math.NaN()}, {nines + " " + nines, math.NaN()},
	})
	// Here the power has more digits than a number's own one ever has.
	if got := Number(wide(t, "."+strings.Repeat("0", 2500000)+"1e2500001")); got != 1 {
		t.Error("two and a half million noughts", got)
	}
	if got := Number(wide(t, "1"+strings.Repeat("0", 2500000)+"e-2500001")); got != 0.1 {
		t.Error("two and a half million noughts", got)
	}
	blank := strings.Repeat(" \u00a0", 100000)
	read(t, []reading{{blank, 0}, {blank + "-1.5" + blank, -1.5}, {blank + "1" + blank + "1", math.NaN()}})
}

// P4.1: a byte behind the last unit is passed over.
func TestOddByte(t *testing.T) {
	for _, c := range []struct {
		w    string
		want float64
	}{
		{"\x00", 0}, {"1", 0}, {"\x00" + "1", 1}, {"\x00" + "1\x00", 1}, {"\x00" + "12", 1}, {"\x00" + "1e", 1}, {"\x00" + "1\xfe", 1}, {"\x00 \x00", 0}, {"\x00-\x00" + "1 ", -1},
		{"\x00-1", math.NaN()}, {"1\x00" + "1", math.NaN()}, {"\x001\x00e1", math.NaN()}, {"\x000\x00x1", math.NaN()}, {"\x000\x00x\x00" + "1f", 1},
	} {
		if got := Number(c.w); !same(got, c.want) {
			t.Errorf("Number of the bytes %q: %v, not %v", c.w, got, c.want)
		}
	}
}
