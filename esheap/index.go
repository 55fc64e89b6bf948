package esheap

import (
	"math"
	"strconv"

	"pennant/utf"
)

// length is the key of an array's length: a wide text.
const length = "\x00l\x00e\x00n\x00g\x00t\x00h"

// mostDigits is how many digits the greatest index has.
const mostDigits = 10

// Key is a number's digits as a wide text.
func Key(n int) string {
	w, _, _ := utf.Wide(strconv.Itoa(n))
	return w
}

// Index is the number of an index.
func Index(key string) (int, bool) {
	count := utf.Length(key)
	if len(key)%2 != 0 || count == 0 || count > mostDigits {
		return 0, false
	}
	n := int64(0)
	for i := range count {
		u, _ := utf.At(key, i)
		if u < '0' || u > '9' {
			return 0, false
		}
		n = 10*n + int64(u-'0')
	}
	first, _ := utf.At(key, 0)
	if first == '0' && count > 1 || n > math.MaxInt32 {
		return 0, false
	}
	return int(n), true
}
