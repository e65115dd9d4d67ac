package text_test

import (
	"bytes"
	"slices"
	"testing"

	"grille/api"
	"grille/text"
)

var codes = []int{text.Utf8, text.Little16, text.Big16, text.Little32, text.Big32}

// P1.4: the mark of each code, and the bytes of characters at the edges of each length.
func TestEncode(t *testing.T) {
	for _, c := range []struct {
		l    []rune
		code int
		want []byte
	}{
		{nil, text.Utf8, []byte{0xef, 0xbb, 0xbf}},
		{nil, text.Little16, []byte{0xff, 0xfe}},
		{nil, text.Big16, []byte{0xfe, 0xff}},
		{nil, text.Little32, []byte{0xff, 0xfe, 0, 0}},
		{[]rune{}, text.Big32, []byte{0, 0, 0xfe, 0xff}},

		{[]rune{0, 0x7f}, text.Utf8, []byte{0xef, 0xbb, 0xbf, 0, 0x7f}},
		{[]rune{0x80, 0x7ff}, text.Utf8, []byte{0xef, 0xbb, 0xbf, 0xc2, 0x80, 0xdf, 0xbf}},
		{[]rune{0x800, 0xffff}, text.Utf8, []byte{0xef, 0xbb, 0xbf, 0xe0, 0xa0, 0x80, 0xef, 0xbf, 0xbf}},
		{[]rune{0xd7ff, 0xe000}, text.Utf8, []byte{0xef, 0xbb, 0xbf, 0xed, 0x9f, 0xbf, 0xee, 0x80, 0x80}},
		{[]rune{0x10000, 0x10ffff}, text.Utf8, []byte{0xef, 0xbb, 0xbf, 0xf0, 0x90, 0x80, 0x80, 0xf4, 0x8f, 0xbf, 0xbf}},
		{[]rune{0xfeff}, text.Utf8, []byte{0xef, 0xbb, 0xbf, 0xef, 0xbb, 0xbf}},

		{[]rune{0x1261}, text.Little16, []byte{0xff, 0xfe, 0x61, 0x12}},
		{[]rune{0x1261}, text.Big16, []byte{0xfe, 0xff, 0x12, 0x61}},
		{[]rune{0xd7ff, 0xe000, 0xffff}, text.Big16, []byte{0xfe, 0xff, 0xd7, 0xff, 0xe0, 0, 0xff, 0xff}},
		{[]rune{0x10000, 0x10ffff}, text.Big16, []byte{0xfe, 0xff, 0xd8, 0, 0xdc, 0, 0xdb, 0xff, 0xdf, 0xff}},
		{[]rune{0x1f600}, text.Big16, []byte{0xfe, 0xff, 0xd8, 0x3d, 0xde, 0}},
		{[]rune{0x1f600}, text.Little16, []byte{0xff, 0xfe, 0x3d, 0xd8, 0, 0xde}},

		{[]rune{0x10203}, text.Little32, []byte{0xff, 0xfe, 0, 0, 3, 2, 1, 0}},
		{[]rune{0x10203}, text.Big32, []byte{0, 0, 0xfe, 0xff, 0, 1, 2, 3}},
		{[]rune{0x10ffff, 0}, text.Big32, []byte{0, 0, 0xfe, 0xff, 0, 0x10, 0xff, 0xff, 0, 0, 0, 0}},
	} {
		if got, e := text.Encode(c.l, c.code); e != api.OK || !bytes.Equal(got, c.want) {
			t.Errorf("Encode(%x, %d): % x, %d; want % x", c.l, c.code, got, e, c.want)
		}
	}
}

// P1.4: ErrArg stands ahead of ErrCode.
func TestEncodeOfWrong(t *testing.T) {
	least, most := -int(^uint(0)>>1)-1, int(^uint(0)>>1)
	for _, code := range []int{-1, 5, 6, 256, least, most} {
		for _, l := range [][]rune{nil, {'a'}, {0xd800}} {
			if b, e := text.Encode(l, code); e != api.ErrArg || len(b) != 0 {
				t.Errorf("Encode(%x, %d): % x, %d; want none, %d", l, code, b, e, api.ErrArg)
			}
		}
	}
	for _, r := range []rune{-1, -0x80000000, 0xd800, 0xdbff, 0xdc00, 0xdfff, 0x110000, 0x7fffffff} {
		for _, code := range codes {
			for _, l := range [][]rune{{r}, {'a', r}, {r, 'a'}, {0xd800, r}} {
				if b, e := text.Encode(l, code); e != api.ErrCode || len(b) != 0 {
					t.Errorf("Encode(%x, %d): % x, %d; want none, %d", l, code, b, e, api.ErrCode)
				}
			}
		}
	}
	if b, e := text.Encode([]rune{0xd83d, 0xde00}, text.Big16); e != api.ErrCode || len(b) != 0 {
		t.Errorf("Encode of two halves: % x, %d", b, e)
	}
}

// P1.2, P1.4, P1.5: every character there is, in every code, is written by the chapter's numbers, and comes back.
func TestEveryCharacterComesBack(t *testing.T) {
	for r := rune(0); r <= 0x10ffff; r++ {
		if r >= 0xd800 && r <= 0xdfff {
			continue
		}
		for _, code := range codes {
			l := []rune{'a', r}
			b, e := text.Encode(l, code)
			if e != api.OK || !bytes.HasSuffix(b, written(r, code)) {
				t.Fatalf("Encode(%x, %d): % x, %d; want % x at its end", r, code, b, e, written(r, code))
			}
			if got, e := text.Runes(b); e != api.OK || !slices.Equal(got, l) {
				t.Fatalf("Runes of Encode(%x, %d): %x, %d", l, code, got, e)
			}
		}
	}
}

// written: the bytes of a character, by the words of P1.2.
func written(r rune, code int) []byte {
	switch code {
	case text.Utf8:
		switch {
		case r < 128:
			return []byte{byte(r)}
		case r < 2048:
			return []byte{byte(192 + r/64), byte(128 + r%64)}
		case r < 65536:
			return []byte{byte(224 + r/4096), byte(128 + r/64%64), byte(128 + r%64)}
		}
		return []byte{byte(240 + r/262144), byte(128 + r/4096%64), byte(128 + r/64%64), byte(128 + r%64)}
	case text.Big32:
		return []byte{0, byte(r / 65536), byte(r / 256 % 256), byte(r % 256)}
	case text.Little32:
		return []byte{byte(r % 256), byte(r / 256 % 256), byte(r / 65536), 0}
	}
	units := []rune{r}
	if r >= 65536 {
		units = []rune{55296 + (r-65536)/1024, 56320 + (r-65536)%1024}
	}
	var out []byte
	for _, u := range units {
		if code == text.Big16 {
			out = append(out, byte(u/256), byte(u%256))
		} else {
			out = append(out, byte(u%256), byte(u/256))
		}
	}
	return out
}

// P1.5: lists of characters come back, whatever is behind the first one, also a mark, or 0.
func TestListsComeBack(t *testing.T) {
	for _, l := range [][]rune{
		nil, {'a'}, {1}, {'a', 0}, {'a', 0, 0, 0}, {1, 0, 0xfeff}, {0xfeff}, {0xfeff, 0xfeff, 0}, {0xfffe}, {0xfffe, 0},
		{0x100}, {0x10000, 0}, {0x10ffff, 0x10000, 0xffff, 0x800, 0x7ff, 0x80, 0x7f, 1}, {0xd7ff, 0xe000}, {0xfe, 0xff}, {0xef, 0xbb, 0xbf},
	} {
		for _, code := range codes {
			b, e := text.Encode(l, code)
			if e != api.OK {
				t.Errorf("Encode(%x, %d): %d", l, code, e)
			}
			if got, e := text.Runes(b); e != api.OK || !slices.Equal(got, l) {
				t.Errorf("Runes of Encode(%x, %d): %x, %d", l, code, got, e)
			}
		}
	}
}

// P1.5: the same text by any code, or the same error.
func TestDecodeOfAnyCode(t *testing.T) {
	for _, l := range [][]rune{
		nil, {'a'}, {'\r'}, {'\r', '\n'}, {'\n', '\r', 'b', '\r', '\n', '\r'}, {0x85, 0xa0, 0x2028, 0xd7ff, 0xe000, 0xfffd, 0x10000, 0x10ffff, '\r'},
		{0xfeff}, {'a', 0}, {0xfffe}, {0x7f, 'a'},
	} {
		want, wantError := text.Clean(l)
		for _, code := range codes {
			b, _ := text.Encode(l, code)
			if got, e := text.Decode(b); got != want || e != wantError {
				t.Errorf("Decode of Encode(%x, %d): %q, %d; want %q, %d", l, code, got, e, want, wantError)
			}
		}
	}
}
