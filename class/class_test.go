package class_test

import (
	"math"
	"strings"
	"testing"
	"unsafe"

	"decanter/class"
)

// The model holds every kind by a list of its characters, not by ranges.
const (
	blanks  = "\t\n\f "
	smalls  = "abcdefghijklmnopqrstuvwxyz"
	greats  = "ABCDEFGHIJKLMNOPQRSTUVWXYZ"
	digits  = "0123456789"
	sixteen = "0123456789abcdef"
)

// place gives the place of a character in a list of bytes below 128, or -1.
func place(list string, c rune) int {
	if c < 0 || c > 127 {
		return -1
	}
	return strings.IndexByte(list, byte(c))
}

// lower is Lower by the model's lists.
func lower(c rune) rune {
	if at := place(greats, c); at >= 0 {
		return rune(smalls[at])
	}
	return c
}

// each calls do with every text up to a length, made of some bytes.
func each(of string, longest int, do func(s string)) {
	var grow func(b []byte)
	grow = func(b []byte) {
		do(string(b))
		if len(b) == longest {
			return
		}
		for at := 0; at < len(of); at++ {
			grow(append(b[:len(b):len(b)], of[at]))
		}
	}
	grow(nil)
}

// edges are bytes at which a kind, or the form of a character, turns.
const edges = "\x00\t\n\v\f\r\x1f !,-./059:@AMZ[`amz{\x7f\x80\xaa\xc3\xe2\xff"

// char checks all that P3.1 says of one character, by the model.
func char(t *testing.T, c rune) {
	t.Helper()
	if got, want := class.Blank(c), place(blanks, c) >= 0; got != want {
		t.Errorf("Blank(%d): %v", c, got)
	}
	if got, want := class.Letter(c), place(smalls+greats, c) >= 0; got != want {
		t.Errorf("Letter(%d): %v", c, got)
	}
	if got, want := class.Digit(c), place(digits, c) >= 0; got != want {
		t.Errorf("Digit(%d): %v", c, got)
	}
	if got, want := class.Lower(c), lower(c); got != want {
		t.Errorf("Lower(%d): %d, not %d", c, got, want)
	}
	value, is := max(place(sixteen, lower(c)), 0), place(sixteen, lower(c)) >= 0
	if got, ok := class.Hex(c); got != value || ok != is {
		t.Errorf("Hex(%d): %d and %v, not %d and %v", c, got, ok, value, is)
	}
}

// P3.1: all characters that there are, and numbers that are none.
func TestCharacters(t *testing.T) {
	for c := rune(-300); c <= 0x10ffff+300; c++ {
		char(t, c)
	}
	for _, c := range []rune{math.MinInt32, math.MinInt32 + 1, math.MaxInt32 - 1, math.MaxInt32} {
		char(t, c)
	}
	// Their last byte, or their last two, are those of a blank, a letter or a digit.
	for c := rune(0); c < 128; c++ {
		for _, more := range []rune{1 << 8, 1 << 16, 1 << 21, 1 << 30, math.MinInt32} {
			char(t, c+more)
		}
	}
}

// P3.1: the blanks and their neighbours, written out.
func TestBlank(t *testing.T) {
	for c, want := range map[rune]bool{
		8: false, 9: true, 10: true, 11: false, 12: true, 13: false, 31: false, 32: true, 33: false,
		0: false, -1: false, 0x85: false, 0xa0: false, 0x2003: false, 0xfeff: false, 0x110000: false,
	} {
		if class.Blank(c) != want {
			t.Errorf("Blank(%d): %v", c, !want)
		}
	}
}

// P3.1: the letters and digits, and those just ahead of them and just behind them.
func TestLetterAndDigit(t *testing.T) {
	for _, x := range []struct {
		c             rune
		letter, digit bool
	}{
		{'`', false, false}, {'a', true, false}, {'m', true, false}, {'z', true, false}, {'{', false, false},
		{'@', false, false}, {'A', true, false}, {'M', true, false}, {'Z', true, false}, {'[', false, false},
		{'/', false, false}, {'0', false, true}, {'5', false, true}, {'9', false, true}, {':', false, false},
		{0xe9, false, false}, {0x212a, false, false}, {0x17f, false, false}, {0x0660, false, false},
		{0xff10, false, false}, {0xff21, false, false}, {0xff41, false, false}, {-1, false, false}, {0x110000, false, false},
	} {
		if class.Letter(x.c) != x.letter {
			t.Errorf("Letter(%U): %v", x.c, !x.letter)
		}
		if class.Digit(x.c) != x.digit {
			t.Errorf("Digit(%U): %v", x.c, !x.digit)
		}
	}
}

// P3.1: each digit of base 16 has its value; the neighbours have none.
func TestHex(t *testing.T) {
	for want, c := range sixteen {
		if got, ok := class.Hex(c); got != want || !ok {
			t.Errorf("Hex(%q): %d and %v", c, got, ok)
		}
	}
	for at, c := range "ABCDEF" {
		if got, ok := class.Hex(c); got != 10+at || !ok {
			t.Errorf("Hex(%q): %d and %v", c, got, ok)
		}
	}
	for _, c := range []rune{'/', ':', '@', 'G', 'Z', '`', 'g', 'z', ' ', 0, -1, 0xff10, 0xff21, 0x110000} {
		if got, ok := class.Hex(c); got != 0 || ok {
			t.Errorf("Hex(%U): %d and %v", c, got, ok)
		}
	}
}

// P3.1: a letter A to Z becomes small, and nothing else does.
func TestLower(t *testing.T) {
	for at, c := range greats {
		if got := class.Lower(c); got != rune(smalls[at]) {
			t.Errorf("Lower(%q): %q", c, got)
		}
	}
	for _, c := range []rune{'@', '[', '`', 'a', 'z', '{', '0', 0, -1, 0xc9, 0x130, 0x212a, 0xff21, 0x110000} {
		if got := class.Lower(c); got != c {
			t.Errorf("Lower(%U): %U", c, got)
		}
	}
}

// P3.2: Small of ordinary texts, with the chapter's example.
func TestSmall(t *testing.T) {
	for _, x := range []struct{ s, want string }{
		{"AbC", "abc"},
		{"", ""},
		{"abc", "abc"},
		{greats, smalls},
		{smalls + digits, smalls + digits},
		{"@AZ[`az{", "@az[`az{"},
		{" A\x00B\r\n", " a\x00b\r\n"},
		{"\u00c9A\u212aB\u0130C\U0001d400D", "\u00c9a\u212ab\u0130c\U0001d400d"},
		{"\xffA\xfeB\x80C", "\xffa\xfeb\x80c"},
		{"\xc3A\xe2\x82B\xf0\x90\x80C", "\xc3a\xe2\x82b\xf0\x90\x80c"},
		{"\xed\xa0\x80A\xc1\x81\xc0\x80", "\xed\xa0\x80a\xc1\x81\xc0\x80"},
		{"\xc3", "\xc3"},
		{"\ufffdA", "\ufffda"},
	} {
		if got := class.Small(x.s); got != x.want {
			t.Errorf("Small(%q): %q, not %q", x.s, got, x.want)
		}
	}
}

// P3.2: Trim of ordinary texts, of nothing, of blanks alone, and of bytes that are no UTF-8.
func TestTrim(t *testing.T) {
	for _, x := range []struct{ s, want string }{
		{"", ""},
		{"a", "a"},
		{" ", ""},
		{blanks + blanks, ""},
		{blanks + "a" + blanks, "a"},
		{" a", "a"},
		{"a ", "a"},
		{" a \t\n\f b ", "a \t\n\f b"},
		{" \r a \r ", "\r a \r"},
		{"\va\v", "\va\v"},
		{"\x00 a \x00", "\x00 a \x00"},
		{" \x1f!\x1f ", "\x1f!\x1f"},
		{"\u00a0a\u00a0", "\u00a0a\u00a0"},
		{"\u2003a\u2003 ", "\u2003a\u2003"},
		{"\u0085a\ufeff", "\u0085a\ufeff"},
		{" \xff ", "\xff"},
		{" \x80 \xc3 ", "\x80 \xc3"},
		{"\t\xe2\x80\n", "\xe2\x80"},
		{"\x89 \x8a", "\x89 \x8a"},
	} {
		if got := class.Trim(x.s); got != x.want {
			t.Errorf("Trim(%q): %q, not %q", x.s, got, x.want)
		}
	}
}

// P3.2: plain names, and texts that are none.
func TestName(t *testing.T) {
	for _, s := range []string{"a", "z", "h1", "data-x", "a-", "a--", "a0-9z", "m5-", smalls + digits + "-"} {
		if !class.Name(s) {
			t.Errorf("Name(%q): false", s)
		}
	}
	for _, s := range []string{
		"", "1", "1a", "9", "-", "-a", "A", "Ab", "aB", "abZ", "a_b", "a b", " a", "a ", "a\n", "a\x00", "\x00",
		"a.", "a/", "a:", "a,", "a@", "a[", "a`", "a{", "`", "{", "@", "[", "/", ":",
		"\u00e9", "a\u00e9", "a\u212a", "a\uff10", "\uff41", "a\xff", "\xff", "a\x80b", "\xe1", "a\xed", "a\ufffd", "a\u2010b",
	} {
		if class.Name(s) {
			t.Errorf("Name(%q): true", s)
		}
	}
	for c := range 256 {
		one := string([]byte{byte(c)})
		if first := c < 128 && strings.Contains(smalls, one); class.Name(one) != first {
			t.Errorf("Name(%q): %v", one, !first)
		}
		if behind := c < 128 && strings.Contains(smalls+digits+"-", one); class.Name("a"+one) != behind {
			t.Errorf("Name(%q): %v", "a"+one, !behind)
		}
	}
}

// smallBytes is Small by the model, byte by byte.
func smallBytes(s string) string {
	b := []byte(s)
	for at := range b {
		b[at] = byte(lower(rune(b[at])))
	}
	return string(b)
}

// trimBytes is Trim by the model, byte by byte.
func trimBytes(s string) string {
	for s != "" && strings.IndexByte(blanks, s[0]) >= 0 {
		s = s[1:]
	}
	for s != "" && strings.IndexByte(blanks, s[len(s)-1]) >= 0 {
		s = s[:len(s)-1]
	}
	return s
}

// nameBytes is Name by the model, byte by byte.
func nameBytes(s string) bool {
	if s == "" || strings.IndexByte(smalls, s[0]) < 0 {
		return false
	}
	for at := 1; at < len(s); at++ {
		if strings.IndexByte(smalls+digits+"-", s[at]) < 0 {
			return false
		}
	}
	return true
}

// P3.2: every short text of the edges' bytes, by the model.
func TestTexts(t *testing.T) {
	each(edges, 3, func(s string) {
		if got, want := class.Small(s), smallBytes(s); got != want {
			t.Errorf("Small(%q): %q, not %q", s, got, want)
		}
		if got, want := class.Trim(s), trimBytes(s); got != want {
			t.Errorf("Trim(%q): %q, not %q", s, got, want)
		}
		if got, want := class.Name(s), nameBytes(s); got != want {
			t.Errorf("Name(%q): %v", s, got)
		}
	})
}

// P3.2: long texts are gone through to their ends.
func TestLongTexts(t *testing.T) {
	const many = 1 << 20
	if got := class.Small(strings.Repeat("A", many)); got != strings.Repeat("a", many) {
		t.Error("Small of a long text")
	}
	if got := class.Trim(strings.Repeat(" ", many) + "a" + strings.Repeat("\n", many)); got != "a" {
		t.Error("Trim of many blanks")
	}
	if !class.Name(strings.Repeat("a", many)) || class.Name(strings.Repeat("a", many)+"A") {
		t.Error("Name of a long text")
	}
}

// K5: what is answered shares no memory with what is handed in, and outlives its change.
func TestNewMemory(t *testing.T) {
	for _, s := range []string{"abc", " abc ", "ABC"} {
		b := []byte(s)
		in := unsafe.String(&b[0], len(b))
		low, trimmed := class.Small(in), class.Trim(in)
		if string(b) != s {
			t.Errorf("%q was changed: %q", s, b)
		}
		clear(b)
		if low != smallBytes(s) || trimmed != trimBytes(s) {
			t.Errorf("%q: %q and %q, when its bytes are changed later", s, low, trimmed)
		}
	}
}

// K6: a call answers the same each time.
func TestSameAgain(t *testing.T) {
	for range 3 {
		if class.Small("AbC") != "abc" || class.Trim(" a ") != "a" || !class.Name("a-1") || class.Name("1") {
			t.Error("another answer")
		}
	}
}
