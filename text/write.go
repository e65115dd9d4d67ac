package text

import (
	"unicode/utf8"

	"grille/api"
)

// Encode: bytes of characters, with their mark.
func Encode(l []rune, code int) ([]byte, api.Errno) {
	if code < Utf8 || code > Big32 {
		return nil, api.ErrArg
	}
	var out []byte
	put := func(r rune) { out = appendIn(code, out, r) }
	put(mark) // a mark is this character, in its code
	for _, r := range l {
		if !isCharacter(uint32(r)) {
			return nil, api.ErrCode
		}
		put(r)
	}
	return out, api.OK
}

func appendIn(code int, out []byte, r rune) []byte {
	switch code {
	case Little16, Big16:
		return append16(out, uint32(r), code == Big16)
	case Little32, Big32:
		return appendNumber(out, uint32(r), 4, code == Big32)
	}
	return utf8.AppendRune(out, r)
}

func append16(out []byte, n uint32, big bool) []byte {
	if n < firstPair {
		return appendNumber(out, n, 2, big)
	}
	n -= firstPair
	out = appendNumber(out, firstHigh|n>>10, 2, big)
	return appendNumber(out, firstLow|n&0x3ff, 2, big)
}

func appendNumber(out []byte, n uint32, size int, big bool) []byte {
	for i := range size {
		place := i
		if big {
			place = size - 1 - i
		}
		out = append(out, byte(n>>(8*place)))
	}
	return out
}
