package text_test

import (
	"bytes"
	"slices"
	"testing"

	"grille/api"
	"grille/text"
)

// P1.3: the first and last character of each range, and those beside them.
func TestMay(t *testing.T) {
	for _, r := range []rune{9, 10, 13, 32, 33, 125, 126, 133, 160, 161, 55294, 55295, 57344, 57345, 65278, 65280, 65532, 65533, 65536, 65537, 131070, 131071, 1114110, 1114111} {
		if !text.May(r) {
			t.Errorf("May(%d): false", r)
		}
	}
	for _, r := range []rune{-2147483648, -65536, -87, -1, 0, 8, 11, 12, 14, 27, 31, 127, 128, 132, 134, 159, 55296, 55297, 56319, 56320, 57342, 57343, 65279, 65534, 65535, 1114112, 1114113, 2147483647} {
		if text.May(r) {
			t.Errorf("May(%d): true", r)
		}
	}
}

// P1.3: all numbers, by the chapter's list.
func TestMayOfAll(t *testing.T) {
	between := func(r, first, last rune) bool { return r >= first && r <= last }
	for r := rune(-200000); r <= 1200000; r++ {
		want := r == 9 || r == 10 || r == 13 || between(r, 32, 126) || r == 133 || between(r, 65536, 1114111) ||
			between(r, 160, 65533) && !between(r, 55296, 57343) && r != 65279
		if text.May(r) != want {
			t.Fatalf("May(%d): %t", r, !want)
		}
	}
}

// P1.3: breaks are of one kind; all else stays.
func TestClean(t *testing.T) {
	for _, c := range []struct {
		l    []rune
		want string
	}{
		{nil, ""},
		{[]rune{}, ""},
		{[]rune{'a'}, "a"},
		{[]rune{'\n'}, "\n"},
		{[]rune{'\r'}, "\n"},
		{[]rune{'\r', '\n'}, "\n"},
		{[]rune{'\n', '\r'}, "\n\n"},
		{[]rune{'\r', '\r'}, "\n\n"},
		{[]rune{'\n', '\n'}, "\n\n"},
		{[]rune{'\r', '\r', '\n'}, "\n\n"},
		{[]rune{'\r', '\n', '\n'}, "\n\n"},
		{[]rune{'\r', '\n', '\r', '\n'}, "\n\n"},
		{[]rune{'\n', '\r', '\n'}, "\n\n"},
		{[]rune{'a', '\r', 'b', '\r', '\n', 'c', '\n', 'd', '\r'}, "a\nb\nc\nd\n"},
		{[]rune{'\t', ' ', '~', 0x85, 0xa0, 0x2028}, "\t ~\u0085\u00a0\u2028"},
		{[]rune{0xd7ff, 0xe000, 0xfffd, 0x10000, 0x10ffff}, "\ud7ff\ue000\ufffd\U00010000\U0010ffff"},
	} {
		if got, e := text.Clean(c.l); got != c.want || e != api.OK {
			t.Errorf("Clean(%x): %q, %d; want %q", c.l, got, e, c.want)
		}
	}
}

// P1.3: one that may not be, wherever it is.
func TestCleanOfWrong(t *testing.T) {
	for _, r := range []rune{-1, 0, 8, 11, 14, 31, 127, 128, 132, 134, 159, 0xd800, 0xdfff, 0xfeff, 0xfffe, 0xffff, 0x110000, 0x7fffffff} {
		for _, l := range [][]rune{{r}, {r, 'a'}, {'a', r}, {'a', r, 'b'}, {'\r', r}, {'\r', '\n', r}} {
			if got, e := text.Clean(l); got != "" || e != api.ErrChar {
				t.Errorf("Clean(%x): %q, %d; want none, %d", l, got, e, api.ErrChar)
			}
		}
	}
}

// P1.4: Runes, then Clean: the first error.
func TestDecode(t *testing.T) {
	for _, c := range []struct {
		b    []byte
		want string
		e    api.Errno
	}{
		{nil, "", api.OK},
		{[]byte("a: b"), "a: b", api.OK},
		{[]byte("a\r\nb\rc\n"), "a\nb\nc\n", api.OK},
		{[]byte("\u00e9\u20ac\U0001f600"), "\u00e9\u20ac\U0001f600", api.OK},
		{[]byte{0xef, 0xbb, 0xbf, 'a'}, "a", api.OK},
		{[]byte{254, 255, 0, 97}, "a", api.OK},
		{[]byte{0xfe, 0xff, 0, '\r', 0, '\n', 0xd8, 0x3d, 0xde, 0}, "\n\U0001f600", api.OK},
		{[]byte{'a', 0, '\r', 0}, "a\n", api.OK},
		{[]byte{0, 0, 0, 'a'}, "a", api.OK},
		{[]byte{'a', 0, 0, 0}, "a", api.OK},
		{[]byte{0x80}, "", api.ErrCode},
		{[]byte{0xfe, 0xff, 0xd8, 0}, "", api.ErrCode},
		{[]byte{0, 'a', 0}, "", api.ErrCode},
		{[]byte{0, 0, 0, 'a', 0, 0, 0xd8, 0}, "", api.ErrCode},
		{[]byte{7}, "", api.ErrChar},
		{[]byte{'a', 7}, "", api.ErrChar},
		{[]byte{0}, "", api.ErrChar},
		{[]byte{0, 0}, "", api.ErrChar},
		{[]byte{0xef, 0xbb, 0xbf, 0xef, 0xbb, 0xbf}, "", api.ErrChar},
		{[]byte{0xef, 0xbf, 0xbe}, "", api.ErrChar},
		{[]byte{0xfe, 0xff, 0, 7}, "", api.ErrChar},
		{[]byte{7, 0x80}, "", api.ErrCode},
		{[]byte{0xfe, 0xff, 0, 7, 0xdc, 0}, "", api.ErrCode},
	} {
		if got, e := text.Decode(c.b); got != c.want || e != c.e {
			t.Errorf("Decode(% x): %q, %d; want %q, %d", c.b, got, e, c.want, c.e)
		}
	}
}

// R5: what is handed in is not changed, and answers do not hang on it after.
func TestListsAreNotShared(t *testing.T) {
	for _, code := range codes {
		l := []rune{'a', '\r', '\n', 0x1f600}
		kept := slices.Clone(l)
		b, _ := text.Encode(l, code)
		keptBytes := bytes.Clone(b)
		got, _ := text.Runes(b)
		s, _ := text.Decode(b)
		clean, _ := text.Clean(l)
		text.Detect(b)
		if !slices.Equal(l, kept) || !bytes.Equal(b, keptBytes) {
			t.Errorf("code %d: %x, % x: changed", code, l, b)
		}
		clear(b)
		clear(l)
		if !slices.Equal(got, kept) || s != "a\n\U0001f600" || clean != s {
			t.Errorf("code %d: %x, %q, %q: hang on what was handed in", code, got, s, clean)
		}
	}
}
