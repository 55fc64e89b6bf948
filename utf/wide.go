package utf

// Length is how many units a wide text has.
func Length(w string) int { return len(w) / 2 }

// At is a unit of a wide text.
func At(w string, i int) (int, bool) {
	if i < 0 || i >= Length(w) {
		return 0, false
	}
	return unit(w, i), true
}

// unit is unit number i, which there is.
func unit(w string, i int) int { return int(w[2*i])<<8 | int(w[2*i+1]) }

// Cut is a part of a wide text.
func Cut(w string, from, to int) string {
	from = within(from, Length(w))
	to = within(to, Length(w))
	if from >= to {
		return ""
	}
	return w[2*from : 2*to]
}

// within is the number nearest to i from 0 to length.
func within(i, length int) int {
	if i < 0 {
		return 0
	}
	if i > length {
		return length
	}
	return i
}

// Find is the least place of a part.
func Find(w, part string, from int) int {
	if from < 0 {
		from = 0
	}
	size := Length(part)
	if size > Length(w)-from {
		return -1
	}
	if size == 0 {
		return from
	}
	back := fallbacks(part)
	held := 0
	for i := from; i < Length(w); i++ {
		held = goOn(part, back, held, unit(w, i))
		if held == size {
			return i + 1 - size
		}
	}
	return -1
}

// fallbacks tells, for each count of first units of part, with how many first units (fewer ones) those end. By them Find looks at no unit of a text anew: a search takes time by the sum of both lengths, not by their product, whatever a script asks for.
func fallbacks(part string) []int {
	back := make([]int, Length(part)+1)
	held := 0
	for i := 1; i < Length(part); i++ {
		held = goOn(part, back, held, unit(part, i))
		back[i+1] = held
	}
	return back
}

// goOn is how many first units of part a text ends with behind unit u, where it ended with held of them (not all) ahead of it.
func goOn(part string, back []int, held, u int) int {
	for held > 0 && unit(part, held) != u {
		held = back[held]
	}
	if unit(part, held) == u {
		return held + 1
	}
	return 0
}

// Lower turns A to Z small.
func Lower(w string) string { return moved(w, 'A', 'Z', 'a') }

// Upper turns a to z great.
func Upper(w string) string { return moved(w, 'a', 'z', 'A') }

// moved is w with the units from first to last put to where those from onto on stand.
func moved(w string, first, last, onto byte) string {
	out := []byte(w[:2*Length(w)])
	for i := 0; i < len(out); i += 2 {
		if out[i] == 0 && out[i+1] >= first && out[i+1] <= last {
			out[i+1] += onto - first
		}
	}
	return string(out)
}
