package esheap

import (
	"math"
	"regexp"
	"strconv"
	"strings"
	"testing"
)

// P8.1: which keys are indexes.
func TestIndex(t *testing.T) {
	for s, n := range map[string]int{
		"0": 0, "1": 1, "9": 9, "10": 10, "12": 12, "99": 99, "100": 100, "1234567890": 1234567890, "999999999": 999999999, "1000000000": 1000000000, "2147483640": 2147483640, "2147483646": 2147483646, "2147483647": 2147483647,
	} {
		if i, ok := Index(wide(s)); i != n || !ok {
			t.Error(s, i, ok)
		}
		if key := Key(n); key != wide(s) {
			t.Error(n, short(key))
		}
	}
	for _, key := range append(wides("00 01 007 0000000001 00000000000 -1 -0 +1 1.0 1. .1 1e1 0x1 a 1a a1 1_0 2147483648 2147483649 2147483650 2147483747 2157483647 3147483647 2999999999 4294967295 4294967296 4294967297 9999999999 10000000000 21474836470 18446744073709551616 18446744073709551617 340282366920938463463374607431768211457 ٣ １ length : /"),
		"", "0", "1", "12", "\x00", "\x000\x00", "\x001\x001\x00", "0\x00", "1\x00", "\x001 ", wide(" 1"), wide("1 "), wide("1\n"), wide("1\x00"), wide("\x001"), wide("1 2"), "\x010", "\x300", "\x00\xb0", "\xff1", "\x001\x011", "\x00/", "\x00:", "\x001\x00/", "\x001\x00:", wide(strings.Repeat("1", 1<<16)), wide(strings.Repeat("0", 1<<16)),
	) {
		if n, ok := Index(key); n != 0 || ok {
			t.Error(short(key), n, ok)
		}
	}
}

// P8.1: each index is told by its one key, and by no other one.
func TestIndexAndKey(t *testing.T) {
	near := []int{math.MinInt, math.MinInt + 1, math.MinInt32 - 1, math.MinInt32, -1 << 40, 1 << 40, math.MaxInt - 1, math.MaxInt, math.MaxUint32, math.MaxInt32, math.MaxInt32 + 1}
	for n := 1; n < math.MaxInt32; n *= 10 {
		near = append(near, n-1, n, n+1, -n, 1-n, -n-1, n*7)
	}
	for n := -3000; n <= 12000; n++ {
		near = append(near, n)
	}
	for _, n := range near {
		s := strconv.Itoa(n)
		key := Key(n)
		if key != wide(s) {
			t.Error(n, short(key))
		}
		i, ok := Index(key)
		if is := n >= 0 && n <= 2147483647; ok != is || is && i != n || !is && i != 0 {
			t.Error(n, i, ok)
		}
	}
}

// P8.1: all texts of a few units, held against a pattern and a reader of numbers.
func TestAllShortKeys(t *testing.T) {
	pattern := regexp.MustCompile(`^(0|[1-9][0-9]{0,9})$`)
	units := "0129-+. e/:٠"
	texts := []string{""}
	for n := 0; len(texts) < 30000; n++ {
		for _, c := range units {
			texts = append(texts, texts[n]+string(c))
		}
	}
	for _, s := range texts {
		// What is put ahead brings the text to where indexes end.
		for _, ahead := range []string{"", "214748", "21474836", "429496729", "2147483"} {
			want, is := 0, false
			if pattern.MatchString(ahead + s) {
				n, err := strconv.ParseInt(ahead+s, 10, 32)
				if err == nil {
					want, is = int(n), true
				}
			}
			if n, ok := Index(wide(ahead + s)); n != want || ok != is {
				t.Error(ahead+s, n, ok)
			}
		}
	}
}

// P8.1: all keys of up to two bytes, and all keys of one unit behind a digit.
func TestAllUnits(t *testing.T) {
	for u := range 1 << 16 {
		key := string([]byte{byte(u >> 8), byte(u)})
		is := u >= '0' && u <= '9'
		n, ok := Index(key)
		if ok != is || is && n != u-'0' || !is && n != 0 {
			t.Error(u, n, ok)
		}
		n, ok = Index(wide("4") + key)
		if ok != is || is && n != 40+u-'0' || !is && n != 0 {
			t.Error(u, n, ok)
		}
	}
	for b := range 1 << 8 {
		if n, ok := Index(string([]byte{byte(b)})); n != 0 || ok {
			t.Error(b, n, ok)
		}
		if n, ok := Index(wide("4") + string([]byte{byte(b)})); n != 0 || ok {
			t.Error(b, n, ok)
		}
	}
}
