package tag

import "strings"

// Resolve: the tag of a text without quotes, by its shape.
func Resolve(s string) string {
	switch s {
	case "", "~", "null", "Null", "NULL":
		return Null
	case "true", "True", "TRUE", "false", "False", "FALSE":
		return Bool
	}
	switch {
	case isInt(s):
		return Int
	case isFloat(s):
		return Float
	}
	return Str
}

func isInt(s string) bool {
	if octal, ok := strings.CutPrefix(s, "0o"); ok {
		return allDigits(octal, 8)
	}
	if hexadecimal, ok := strings.CutPrefix(s, "0x"); ok {
		return allDigits(hexadecimal, 16)
	}
	return allDigits(withoutSign(s), 10)
}

func isFloat(s string) bool {
	switch s {
	case ".nan", ".NaN", ".NAN": // no sign is ahead of these
		return true
	}
	number := withoutSign(s)
	switch number {
	case ".inf", ".Inf", ".INF":
		return true
	}
	return isDecimal(number)
}

// isDecimal: is s digits, perhaps with a point among, ahead of or behind them, and then perhaps a power?
func isDecimal(s string) bool {
	count := digitsAhead(s, 10)
	rest := s[count:]
	if behind, ok := strings.CutPrefix(rest, "."); ok {
		more := digitsAhead(behind, 10)
		count += more
		rest = behind[more:]
	}
	return count > 0 && (rest == "" || isPower(rest))
}

func isPower(s string) bool {
	return s != "" && (s[0] == 'e' || s[0] == 'E') && allDigits(withoutSign(s[1:]), 10)
}

// withoutSign takes one sign off, not all of them: a number has no more.
func withoutSign(s string) string {
	if s != "" && (s[0] == '+' || s[0] == '-') {
		return s[1:]
	}
	return s
}

func allDigits(s string, base int) bool {
	return s != "" && digitsAhead(s, base) == len(s)
}

// digitsAhead: how many digits of a base s begins with.
func digitsAhead(s string, base int) int {
	for at := range len(s) {
		if worth(s[at]) >= base {
			return at
		}
	}
	return len(s)
}

// noDigit is worth more than a digit of any base here.
const noDigit = 16

func worth(b byte) int {
	switch {
	case b >= 'a' && b <= 'f':
		b -= 'a' - 'A'
		fallthrough
	case b >= 'A' && b <= 'F':
		return int(b-'A') + 10
	case b >= '0' && b <= '9':
		return int(b - '0')
	}
	return noDigit
}
