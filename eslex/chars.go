package eslex

// words are those that no name may be.
var words = []string{
	"break", "case", "catch", "class", "const", "continue", "debugger", "default", "delete", "do",
	"else", "enum", "export", "extends", "false", "finally", "for", "function", "if", "import",
	"in", "instanceof", "let", "new", "null", "return", "super", "switch", "this", "throw",
	"true", "try", "typeof", "var", "void", "while", "with", "yield",
}

var marks = []string{
	"{", "}", "(", ")", "[", "]", ";", ",", ".",
	"<", ">", "<=", ">=", "==", "!=", "===", "!==",
	"+", "-", "*", "/", "%", "++", "--", "<<", ">>", ">>>",
	"&", "|", "^", "!", "~", "&&", "||", "?", ":",
	"=", "+=", "-=", "*=", "/=", "%=",
}

// byteAt is a byte of s; behind its end it is 0, which belongs to no name, number or mark.
func byteAt(s string, i int) byte {
	if i >= len(s) {
		return 0
	}
	return s[i]
}

// past is the first place from i on of which is doesn't hold.
func past(s string, i int, is func(b byte) bool) int {
	for i < len(s) && is(s[i]) {
		i++
	}
	return i
}

func isBlank(c int) bool {
	switch c {
	case 9, 11, 12, 32, 0xA0, 0xFEFF:
		return true
	}
	return false
}

func isLineEnd(c int) bool {
	switch c {
	case 10, 13, 0x2028, 0x2029:
		return true
	}
	return false
}

func opensName(b byte) bool {
	return b >= 'a' && b <= 'z' || b >= 'A' && b <= 'Z' || b == '_' || b == '$'
}

func goesOnName(b byte) bool { return opensName(b) || isDigit(b) }

func isDigit(b byte) bool { return b >= '0' && b <= '9' }

func isSixteenth(b byte) bool {
	return isDigit(b) || b >= 'a' && b <= 'f' || b >= 'A' && b <= 'F'
}
