package text

import (
	"bytes"
	"unicode/utf8"

	"grille/api"
)

// Detect: the code of bytes, and how many of them are its mark.
func Detect(b []byte) (int, int) {
	size := 0
	switch {
	case begins(b, 0, 0, 0xfe, 0xff):
		size = 4
		fallthrough
	case begins(b, 0, 0, 0) && other(b, 3):
		return Big32, size
	case begins(b, 0xff, 0xfe, 0, 0):
		size = 4
		fallthrough
	case other(b, 0) && begins(b[1:], 0, 0, 0):
		return Little32, size
	case begins(b, 0xfe, 0xff):
		size = 2
		fallthrough
	case begins(b, 0) && other(b, 1):
		return Big16, size
	case begins(b, 0xff, 0xfe):
		size = 2
		fallthrough
	case other(b, 0) && begins(b[1:], 0):
		return Little16, size
	case begins(b, 0xef, 0xbb, 0xbf):
		size = 3
		fallthrough
	default:
		return Utf8, size
	}
}

func begins(b []byte, first ...byte) bool {
	return bytes.HasPrefix(b, first)
}

// other: is there a byte at a place, and is it not 0?
func other(b []byte, at int) bool {
	return at < len(b) && b[at] != 0
}

// Runes: the characters of bytes.
func Runes(b []byte) ([]rune, api.Errno) {
	code, size := Detect(b)
	b = b[size:]
	switch code {
	case Little16, Big16:
		return of16(b, code == Big16)
	case Little32, Big32:
		return of32(b, code == Big32)
	}
	if !utf8.Valid(b) {
		return nil, api.ErrCode
	}
	return []rune(string(b)), api.OK
}

// number: that of all the bytes of b.
func number(b []byte, big bool) uint32 {
	n := uint32(0)
	for i := range b {
		if big {
			n = n<<8 | uint32(b[i])
		} else {
			n |= uint32(b[i]) << (8 * i)
		}
	}
	return n
}

func of32(b []byte, big bool) ([]rune, api.Errno) {
	if len(b)%4 != 0 {
		return nil, api.ErrCode
	}
	out := make([]rune, 0, len(b)/4)
	for at := 0; at < len(b); at += 4 {
		n := number(b[at:at+4], big)
		if !isCharacter(n) {
			return nil, api.ErrCode
		}
		out = append(out, rune(n))
	}
	return out, api.OK
}

func of16(b []byte, big bool) ([]rune, api.Errno) {
	if len(b)%2 != 0 {
		return nil, api.ErrCode
	}
	out := make([]rune, 0, len(b)/2)
	for at := 0; at < len(b); at += 2 {
		n := number(b[at:at+2], big)
		if !isCharacter(n) {
			if at+4 > len(b) {
				return nil, api.ErrCode
			}
			at += 2
			whole, ok := pair(n, number(b[at:at+2], big))
			if !ok {
				return nil, api.ErrCode
			}
			n = whole
		}
		out = append(out, rune(n))
	}
	return out, api.OK
}

// pair: the character that two halves are, if they are just that.
func pair(high, low uint32) (uint32, bool) {
	if high < firstHigh || high >= firstLow || low < firstLow || low > lastLow {
		return 0, false
	}
	return firstPair + (high-firstHigh)<<10 + (low - firstLow), true
}
