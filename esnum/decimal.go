package esnum

import "strconv"

// mostDigits is how many digits a half between two numbers has at most (from the first that isn't 0 on): of what is behind them it counts only whether it is 0.
const mostDigits = 768

// mostPower is more than the digits of any text can move a point.
const mostPower = 1 << 40

// A fraction is a point, its digits (the first no 0), and 10 to the power to multiply with.
type fraction struct {
	digits []byte
	more   bool // more digits than those kept, not all of them 0
	power  int
}

// decimal is the number of the digits, the point and the e that stand from i to the end, if they are right.
func decimal(look looker, i int) (float64, bool) {
	var f fraction
	back := f.front(look, i)
	count := back - i
	if look(back) == '.' {
		first := back + 1
		back = f.back(look, first)
		count += back - first
	}
	power, last, ok := powerAt(look, back)
	if count == 0 || !ok || look(last) != end {
		return 0, false
	}
	f.power += power
	return f.nearest(), true
}

// front takes the digits at i, which stand ahead of a point, and tells where they end.
func (f *fraction) front(look looker, i int) int {
	for isDigit(look(i)) {
		f.take(byte(look(i)))
		if len(f.digits) > 0 {
			f.power++
		}
		i++
	}
	return i
}

// back takes the digits at i, which stand behind a point, and tells where they end.
func (f *fraction) back(look looker, i int) int {
	for isDigit(look(i)) {
		f.take(byte(look(i)))
		if len(f.digits) == 0 {
			f.power--
		}
		i++
	}
	return i
}

func (f *fraction) take(digit byte) {
	switch {
	case len(f.digits) == 0 && digit == '0':
	case len(f.digits) < mostDigits:
		f.digits = append(f.digits, digit)
	case digit != '0':
		f.more = true
	}
}

// powerAt is what an e at i says, where that ends, and whether it has digits; without an e there it is 0, and ends at i.
func powerAt(look looker, i int) (int, int, bool) {
	if look(i) != 'e' && look(i) != 'E' {
		return 0, i, true
	}
	negative, first := signAt(look, i+1)
	power := 0
	last := first
	for isDigit(look(last)) {
		if power < mostPower {
			power = 10*power + look(last) - '0'
		}
		last++
	}
	if negative {
		power = -power
	}
	return power, last, last > first
}

func isDigit(u int) bool { return u >= '0' && u <= '9' }

// nearest is the number nearest to f.
func (f *fraction) nearest() float64 {
	if len(f.digits) == 0 {
		return 0
	}
	digits := string(f.digits)
	if f.more {
		digits += "1"
	}
	// Out of these bounds all are an infinity or 0, and strconv reads no power of many digits.
	power := max(-1000, min(f.power, 1000))
	// Its error says no more than that the number is an infinity.
	x, _ := strconv.ParseFloat("0."+digits+"e"+strconv.Itoa(power), 64)
	return x
}
