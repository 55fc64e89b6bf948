package esnum

import (
	"math"
	"math/big"
	"math/rand"
	"testing"

	"pennant/utf"
)

// Numbers at the edges of their form.
const (
	least       = 5e-324                  // the least above 0
	greatest    = math.MaxFloat64         // the greatest finite one
	leastFull   = 2.2250738585072014e-308 // the least of all 53 bits
	greatestSub = 2.225073858507201e-308  // the greatest of fewer
)

func minusNought() float64 { return math.Copysign(0, -1) }

// oddNaN is no number too, by other bits than math.NaN's, and with a sign.
func oddNaN() float64 { return math.Float64frombits(0xFFF0000000000001) }

// wide is a text of characters as a wide one.
func wide(t *testing.T, s string) string {
	t.Helper()
	w, _, e := utf.Wide(s)
	if e != 0 {
		t.Fatalf("%q is no UTF-8", s)
	}
	return w
}

// same is the chapter's word for two numbers that are one, told by their bits.
func same(a, b float64) bool {
	return a != a && b != b || math.Float64bits(a) == math.Float64bits(b)
}

// numbers are the edges, and some of each size, by dice.
func numbers(count int) []float64 {
	dice := rand.New(rand.NewSource(4))
	list := []float64{
		0, minusNought(), math.NaN(), oddNaN(), math.Inf(1), math.Inf(-1),
		least, 2 * least, 3 * least, greatestSub, leastFull, greatest, math.Nextafter(greatest, 0),
		0.5, 1, 1.5, math.Nextafter(1, 0), math.Nextafter(1, 2), 1 << 53, 1<<53 - 1, 1<<53 + 2,
	}
	for e := -1074; e < 1024; e++ {
		x := math.Ldexp(1, e)
		list = append(list, x, math.Nextafter(x, 0), math.Nextafter(x, greatest))
	}
	for range count {
		list = append(list,
			math.Float64frombits(dice.Uint64()),
			float64(dice.Int63n(1<<53)),
			float64(dice.Int63())*float64(dice.Intn(1000)),
			float64(dice.Intn(100000))/1000,
			math.Ldexp(dice.Float64(), dice.Intn(80)-10),
			math.Ldexp(float64(1+dice.Intn(16)), dice.Intn(2046)-1074),
			float64(least)*float64(1+dice.Intn(5000)))
	}
	for _, x := range list[:] {
		list = append(list, -x)
	}
	return list
}

// P4.1: Whole, at the edges.
func TestWholeCutsTowardNought(t *testing.T) {
	for _, c := range []struct{ x, want float64 }{
		{0, 0}, {minusNought(), minusNought()},
		{math.NaN(), 0}, {oddNaN(), 0},
		{math.Inf(1), math.Inf(1)}, {math.Inf(-1), math.Inf(-1)},
		{0.5, 0}, {math.Nextafter(1, 0), 0}, {1, 1}, {1.5, 1}, {2.5, 2}, {least, 0},
		{-0.5, minusNought()}, {-least, minusNought()}, {math.Nextafter(-1, 0), minusNought()},
		{-1, -1}, {-1.999, -1}, {-2.5, -2},
		{4503599627370495.5, 4503599627370495}, {-4503599627370495.5, -4503599627370495},
		{4294967296.75, 4294967296}, {-2147483649.25, -2147483649},
		{1 << 53, 1 << 53}, {1e300, 1e300}, {-greatest, -greatest}, {greatest, greatest},
	} {
		if got := Whole(c.x); !same(got, c.want) {
			t.Errorf("Whole(%v): %v, not %v", c.x, got, c.want)
		}
	}
}

// P4.1: numbers of 32 bits, around 2^31 and 2^32, beyond, below 0, and with fractions.
func TestNumbersOf32Bits(t *testing.T) {
	for _, c := range []struct {
		x    float64
		want uint32
	}{
		{0, 0}, {minusNought(), 0}, {math.NaN(), 0}, {oddNaN(), 0}, {math.Inf(1), 0}, {math.Inf(-1), 0},
		{1, 1}, {-1, 4294967295}, {0.9, 0}, {-0.9, 0}, {1.9, 1}, {-1.9, 4294967295}, {least, 0}, {-least, 0},
		{2147483647, 2147483647}, {2147483647.9, 2147483647}, {2147483648, 2147483648}, {2147483648.9, 2147483648}, {2147483649, 2147483649},
		{-2147483647, 2147483649}, {-2147483648, 2147483648}, {-2147483648.9, 2147483648}, {-2147483649, 2147483647},
		{4294967295, 4294967295}, {4294967295.9, 4294967295}, {4294967296, 0}, {4294967296.5, 0}, {4294967297, 1}, {4294967297.5, 1},
		{-4294967295, 1}, {-4294967295.5, 1}, {-4294967296, 0}, {-4294967296.5, 0}, {-4294967297, 4294967295},
		{8589934592, 0}, {8589934593.25, 1}, {-8589934593.25, 4294967295}, {1<<53 - 1, 4294967295}, {-(1<<53 - 1), 1}, {1<<53 + 2, 2},
		{1 << 63, 0}, {-(1 << 63), 0}, {1<<63 + 1<<11, 2048}, {-(1<<63 + 1<<11), 4294965248}, {1 << 64, 0},
		{1 << 84, 0}, {1<<84 - 1<<31, 2147483648}, {1e20, 1661992960}, {1e21, 3735027712}, {1e300, 0}, {greatest, 0}, {-greatest, 0},
	} {
		if got := Uint32(c.x); got != c.want {
			t.Errorf("Uint32(%v): %d, not %d", c.x, got, c.want)
		}
		signed := int64(c.want)
		if signed >= 1<<31 {
			signed -= 1 << 32
		}
		if got := Int32(c.x); int64(got) != signed {
			t.Errorf("Int32(%v): %d, not %d", c.x, got, signed)
		}
	}
}

// exact is x as a fraction; of what isn't finite there is none.
func exact(x float64) (*big.Rat, bool) {
	if x-x != 0 {
		return nil, false
	}
	return new(big.Rat).SetFloat64(x), true
}

// P4.1: numbers of all sizes are cut, and turned into 32 bits, as whole numbers of any length are.
func TestNumbersCutByWholeNumbers(t *testing.T) {
	for _, x := range numbers(3000) {
		r, finite := exact(x)
		if !finite {
			continue
		}
		cut := new(big.Int).Quo(r.Num(), r.Denom())
		want, _ := new(big.Float).SetInt(cut).Float64()
		if got := Whole(x); !same(got, math.Copysign(want, x)) {
			t.Errorf("Whole(%v): %v, not %v", x, got, want)
		}
		rest := new(big.Int).Mod(cut, big.NewInt(1<<32)).Uint64()
		if got := Uint32(x); uint64(got) != rest {
			t.Errorf("Uint32(%v): %d, not %d", x, got, rest)
		}
	}
}

// P4.4: the same bits, and 2^32 more changes neither. (A fraction is cut toward 0: of a number below 0 that isn't whole another one is left, if what it becomes is above 0. Of these the chapter's words on Uint32 hold.)
func TestThe32BitsStay(t *testing.T) {
	met := 0
	for _, x := range numbers(3000) {
		u, i := Uint32(x), Int32(x)
		if uint32(i) != u || (i < 0) != (u >= 1<<31) {
			t.Errorf("of %v: %d, %d", x, u, i)
		}
		more, is := lifted(x)
		if !is || x != math.Trunc(x) && x < 0 && more > 0 {
			continue
		}
		met++
		if Uint32(more) != u || Int32(more) != i {
			t.Errorf("of %v: %d, %d, with 2^32 more %d, %d", x, u, i, Uint32(more), Int32(more))
		}
	}
	if met < 10000 {
		t.Error("hardly any numbers", met)
	}
	if Uint32(-0.5) != 0 || Uint32(4294967295.5) != 4294967295 {
		t.Error("a fraction below 0")
	}
}

// lifted is x and 2^32, and whether that is exact.
func lifted(x float64) (float64, bool) {
	r, finite := exact(x)
	if !finite {
		return 0, false
	}
	return r.Add(r, new(big.Rat).SetInt64(1<<32)).Float64()
}

// P4.1: Same, each one with each other one.
func TestSameIsOneNumber(t *testing.T) {
	list := []float64{0, minusNought(), 1, -1, least, -least, 0.1, math.Nextafter(0.1, 1), greatest, -greatest, math.Inf(1), math.Inf(-1), math.NaN()}
	for i, a := range list {
		for k, b := range list {
			if Same(a, b) != (i == k) {
				t.Errorf("Same(%v, %v): %v", a, b, i != k)
			}
		}
	}
	if !Same(math.NaN(), oddNaN()) || !Same(oddNaN(), math.NaN()) || Same(oddNaN(), 1) || Same(math.Inf(-1), oddNaN()) {
		t.Error("NaN of other bits")
	}
}
