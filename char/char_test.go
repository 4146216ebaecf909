package char_test

import (
	"bytes"
	"fmt"
	"math"
	"strings"
	"testing"

	"decanter/api"
	"decanter/char"
)

// begins checks which character stands at the byte 0 of a text, and how many bytes it has.
func begins(t *testing.T, s string, want rune, many int) {
	t.Helper()
	if c, n := char.Next([]byte(s), 0); c != want || n != many {
		t.Errorf("Next(%q, 0): %U and %d, not %U and %d", s, c, n, want, many)
	}
}

// gives checks the characters from a byte up to another one.
func gives(t *testing.T, s string, from, to int, want string) {
	t.Helper()
	if all := char.All([]byte(s), from, to); all != want {
		t.Errorf("All(%q, %d, %d): %q, not %q", s, from, to, all, want)
	}
}

// behind tells whether as many bytes from 128 to 191 as are told stand behind the first one.
func behind(b []byte, many int) bool {
	if len(b) <= many {
		return false
	}
	for _, x := range b[1 : 1+many] {
		if x&0xc0 != 0x80 {
			return false
		}
	}
	return true
}

// bits puts a first byte's bits ahead of six bits of each byte behind it.
func bits(first byte, rest []byte) rune {
	c := rune(first)
	for _, x := range rest {
		c = c<<6 | rune(x&0x3f)
	}
	return c
}

// model is the chapter's section 'Words', with UTF-8 by its bits, not by the library.
func model(b []byte) (rune, int) {
	switch x := b[0]; {
	case x == 13 && len(b) > 1 && b[1] == 10:
		return 10, 2
	case x == 13:
		return 10, 1
	case x > 0 && x < 0x80:
		return rune(x), 1
	case x&0xe0 == 0xc0 && behind(b, 1):
		if c := bits(x&0x1f, b[1:2]); c >= 0x80 {
			return c, 2
		}
	case x&0xf0 == 0xe0 && behind(b, 2):
		if c := bits(x&0x0f, b[1:3]); c >= 0x800 && (c < 0xd800 || c > 0xdfff) {
			return c, 3
		}
	case x&0xf8 == 0xf0 && behind(b, 3):
		if c := bits(x&0x07, b[1:4]); c >= 0x10000 && c <= 0x10ffff {
			return c, 4
		}
	}
	return 0xfffd, 1
}

// modelAll is P2.2 by the model.
func modelAll(b []byte, from, to int) string {
	if from < 0 || from >= len(b) {
		return ""
	}
	all := []rune{}
	for at := from; at < len(b) && at < to; {
		c, n := model(b[at:])
		all = append(all, c)
		at += n
	}
	return string(all)
}

// each calls do with all texts of the length that is told, made of some bytes.
func each(of []byte, length int, do func(b []byte)) {
	b := make([]byte, length)
	var fill func(at int)
	fill = func(at int) {
		if at == length {
			do(b)
			return
		}
		for _, x := range of {
			b[at] = x
			fill(at + 1)
		}
	}
	fill(0)
}

// edges are bytes at which the form of a character, or of a line's end, turns.
var edges = []byte{0, 10, 13, 'a', 0x7f, 0x80, 0x8f, 0x90, 0x9f, 0xa0, 0xbf, 0xc0, 0xc1, 0xc2, 0xdf, 0xe0, 0xe1, 0xed, 0xef, 0xf0, 0xf1, 0xf4, 0xf5, 0xff}

// P2.1: ordinary characters, the least and the greatest of each length.
func TestNextOrdinary(t *testing.T) {
	for _, c := range []struct {
		s    string
		c    rune
		many int
	}{
		{"a", 'a', 1},
		{"ab", 'a', 1},
		{"\n", 10, 1},
		{"\t", 9, 1},
		{"\x01", 1, 1},
		{"\x7f", 0x7f, 1},
		{"\xc2\x80", 0x80, 2},
		{"\u00e9x", 0xe9, 2},
		{"\xdf\xbf", 0x7ff, 2},
		{"\xe0\xa0\x80", 0x800, 3},
		{"\u20acx", 0x20ac, 3},
		{"\xed\x9f\xbf", 0xd7ff, 3},
		{"\xee\x80\x80", 0xe000, 3},
		{"\xef\xbf\xbd", 0xfffd, 3},
		{"\xef\xbf\xbf", 0xffff, 3},
		{"\xef\xbb\xbf", 0xfeff, 3},
		{"\xf0\x90\x80\x80", 0x10000, 4},
		{"\U0001f600x", 0x1f600, 4},
		{"\xf4\x8f\xbf\xbf", 0x10ffff, 4},
	} {
		begins(t, c.s, c.c, c.many)
	}
}

// P2.1: a byte 13, with and without a byte 10 behind it.
func TestNextLineEnd(t *testing.T) {
	for _, c := range []struct {
		s    string
		many int
	}{
		{"\r", 1},
		{"\r\n", 2},
		{"\r\nx", 2},
		{"\r\n\n", 2},
		{"\rx\n", 1},
		{"\r\r\n", 1},
		{"\r\x00", 1},
		{"\r\xff", 1},
		{"\n", 1},
		{"\n\r", 1},
		{"\n\n", 1},
	} {
		begins(t, c.s, 10, c.many)
	}
}

// P2.1: bytes that are no character: each of them is one U+FFFD.
func TestNextRepair(t *testing.T) {
	for _, c := range []struct{ name, s string }{
		{"a byte 0", "\x00"},
		{"a byte 0 ahead of others", "\x00a"},
		{"a byte that goes on", "\x80"},
		{"the last byte that goes on", "\xbf\xbf"},
		{"bytes that never stand", "\xff\xff"},
		{"another byte that never stands", "\xfe"},
		{"one of two", "\xc3"},
		{"one of two, then another one", "\xc3a"},
		{"two of three", "\xe2\x82"},
		{"two of three, then another one", "\xe2\x82a"},
		{"three of four", "\xf0\x9f\x98"},
		{"three of four, then another one", "\xf0\x9f\x98a"},
		{"the first surrogate", "\xed\xa0\x80"},
		{"the last surrogate", "\xed\xbf\xbf"},
		{"a pair of surrogates", "\xed\xa0\xbd\xed\xb8\x80"},
		{"two bytes for 0", "\xc0\x80"},
		{"two bytes for 127", "\xc1\xbf"},
		{"three bytes for U+7FF", "\xe0\x9f\xbf"},
		{"four bytes for U+FFFF", "\xf0\x8f\xbf\xbf"},
		{"U+110000", "\xf4\x90\x80\x80"},
		{"U+140000", "\xf5\x80\x80\x80"},
		{"five bytes", "\xf8\x88\x80\x80\x80"},
	} {
		t.Run(c.name, func(t *testing.T) { begins(t, c.s, api.Repair, 1) })
	}
}

// P2.1: the byte that is asked for need not be the first one, nor one at which All would stop.
func TestNextAt(t *testing.T) {
	b := []byte("ab\r\n\u00e9\x80c\x00\u20ac")
	for at, want := range []struct {
		c    rune
		many int
	}{
		{'a', 1}, {'b', 1}, {10, 2}, {10, 1}, {0xe9, 2}, {0xfffd, 1}, {0xfffd, 1},
		{'c', 1}, {0xfffd, 1}, {0x20ac, 3}, {0xfffd, 1}, {0xfffd, 1},
	} {
		if c, n := char.Next(b, at); c != want.c || n != want.many {
			t.Errorf("%d: %U and %d", at, c, n)
		}
	}
}

// P2.1: no such byte.
func TestNextNone(t *testing.T) {
	for _, b := range [][]byte{nil, {}, []byte("a"), []byte("ab\r\n\u20ac")} {
		for _, at := range []int{math.MinInt, -2, -1, len(b), len(b) + 1, math.MaxInt} {
			if c, n := char.Next(b, at); c != 0 || n != 0 {
				t.Errorf("Next(%q, %d): %U and %d", b, at, c, n)
			}
		}
	}
}

// P2.1: bytes behind the end of b, in its memory alone, are none of b's.
func TestNextStaysWithinLength(t *testing.T) {
	for _, c := range []struct {
		s    string
		c    rune
		many int
	}{
		{"\r\n", 10, 1},
		{"\u00e9", 0xfffd, 1},
		{"\u20ac", 0xfffd, 1},
		{"\U0001f600", 0xfffd, 1},
	} {
		b := []byte(c.s)
		b = b[:len(b)-1]
		if r, n := char.Next(b, 0); r != c.c || n != c.many {
			t.Errorf("%q: %U and %d", c.s, r, n)
		}
		if r, n := char.Next(b, len(b)); r != 0 || n != 0 {
			t.Errorf("%q: %U and %d behind its end", c.s, r, n)
		}
		if all := char.All(b, 0, len(c.s)); all != modelAll(b, 0, len(b)) {
			t.Errorf("%q: All gives %q", c.s, all)
		}
	}
}

// P2.1: each character but those that become another one.
func TestNextEveryNumber(t *testing.T) {
	for c := rune(1); c <= 0x10ffff; c++ {
		if c == 13 || c >= 0xd800 && c <= 0xdfff {
			continue
		}
		s := string(c)
		if got, n := char.Next([]byte(s), 0); got != c || n != len(s) {
			t.Fatalf("%U: %U and %d", c, got, n)
		}
	}
}

// P2.1: all texts of up to three bytes, and those of four at the edges, as the model has them.
func TestNextIsTheModel(t *testing.T) {
	check := func(b []byte) {
		want, many := model(b)
		if c, n := char.Next(b, 0); c != want || n != many {
			t.Fatalf("%q: %U and %d, not %U and %d", b, c, n, want, many)
		}
	}
	every := make([]byte, 256)
	for i := range every {
		every[i] = byte(i)
	}
	each(every, 1, check)
	each(every, 2, check)
	each(every, 3, check)
	each(edges, 4, check)
}

// P2.2: the chapter's example.
func TestAllExample(t *testing.T) {
	gives(t, "a\r\n\x00", 0, 4, "a\n\ufffd")
}

// P2.2: from a byte up to another one.
func TestAll(t *testing.T) {
	mixed := "ab\r\n\u00e9\x80c"
	for _, c := range []struct {
		name, s  string
		from, to int
		want     string
	}{
		{"all", mixed, 0, 8, "ab\n\u00e9\ufffdc"},
		{"a front", mixed, 0, 2, "ab"},
		{"an end", mixed, 6, 8, "\ufffdc"},
		{"one", mixed, 1, 2, "b"},
		{"a line's end", mixed, 2, 4, "\n"},
		{"a line's end that ends behind to", mixed, 1, 3, "b\n"},
		{"a line's end, from its second byte on", mixed, 3, 4, "\n"},
		{"a character that ends behind to", mixed, 4, 5, "\u00e9"},
		{"a character, from its second byte on", mixed, 5, 7, "\ufffd\ufffd"},
		{"a character of three bytes that ends behind to", "\u20acx", 0, 1, "\u20ac"},
		{"the same, up to its last byte", "\u20acx", 0, 2, "\u20ac"},
		{"the same, up to its end", "\u20acx", 0, 3, "\u20ac"},
		{"a character of four bytes that ends behind to", "a\U0001f600x", 0, 2, "a\U0001f600"},
		{"bytes 13 one behind the other", "\r\r\n\n\r", 0, 5, "\n\n\n\n"},
		{"a byte 13 at the end", "a\r", 0, 2, "a\n"},
		{"bytes 0", "\x00\x00", 0, 2, "\ufffd\ufffd"},
		{"a surrogate", "\xed\xa0\x80", 0, 3, "\ufffd\ufffd\ufffd"},
		{"a longer form", "\xc0\x80", 0, 2, "\ufffd\ufffd"},
		{"above U+10FFFF", "\xf4\x90\x80\x80", 0, 4, "\ufffd\ufffd\ufffd\ufffd"},
		{"a cut character", "\xe2\x82", 0, 2, "\ufffd\ufffd"},
		{"a cut character ahead of a whole one", "\xe2\x82\u20ac", 0, 5, "\ufffd\ufffd\u20ac"},
		{"U+FFFD itself", "\ufffd", 0, 3, "\ufffd"},
	} {
		t.Run(c.name, func(t *testing.T) { gives(t, c.s, c.from, c.to, c.want) })
	}
}

// P2.2: to may lie anywhere: behind the end, at from, ahead of it.
func TestAllTo(t *testing.T) {
	for _, to := range []int{3, 4, 99, math.MaxInt} {
		gives(t, "abc", 1, to, "bc")
	}
	for _, to := range []int{1, 0, -1, math.MinInt} {
		gives(t, "abc", 1, to, "")
	}
}

// P2.2: from is no byte of b.
func TestAllFromNoByte(t *testing.T) {
	for _, from := range []int{math.MinInt, -2, -1, 3, 4, math.MaxInt - 1, math.MaxInt} {
		for _, to := range []int{math.MinInt, -1, 0, 2, 3, 5, math.MaxInt} {
			gives(t, "abc", from, to, "")
			gives(t, "", from, to, "")
		}
	}
	if all := char.All(nil, 0, 1); all != "" {
		t.Errorf("nil: %q", all)
	}
}

// P2.2: all texts of three bytes at the edges, from and to each place, as the model has them.
func TestAllIsTheModel(t *testing.T) {
	each(edges, 3, func(b []byte) {
		for from := -1; from <= 4; from++ {
			for to := -1; to <= 4; to++ {
				if all, want := char.All(b, from, to), modelAll(b, from, to); all != want {
					t.Fatalf("All(%q, %d, %d): %q, not %q", b, from, to, all, want)
				}
			}
		}
	})
}

// P2.2: texts that are their own characters, and others.
func TestClean(t *testing.T) {
	for _, c := range []struct {
		s     string
		clean bool
	}{
		{"", true},
		{"a", true},
		{"\n", true},
		{"\n\n", true},
		{"a\n\u00e9\u20ac\U0001f600\x01\x7f", true},
		{"\ufffd", true},
		{"\ufeffa", true},
		{"\U0010ffff", true},
		{"\r", false},
		{"\r\n", false},
		{"\n\r", false},
		{"a\r\nb", false},
		{"\x00", false},
		{"a\x00", false},
		{"\xff", false},
		{"a\x80", false},
		{"\xe2\x82", false},
		{"\xed\xa0\x80", false},
		{"\xc0\x80", false},
		{"\xf4\x90\x80\x80", false},
	} {
		if clean := char.Clean(c.s); clean != c.clean {
			t.Errorf("%q: %v", c.s, clean)
		}
	}
}

// P2.2: Clean is as All has it, and what All gives is clean.
func TestCleanIsAll(t *testing.T) {
	each(edges, 3, func(b []byte) {
		s := string(b)
		all := char.All(b, 0, len(b))
		if clean := char.Clean(s); clean != (all == s) {
			t.Fatalf("%q: %v", s, clean)
		}
		if !char.Clean(all) || strings.ContainsAny(all, "\x00\r") {
			t.Fatalf("%q of %q isn't clean", all, s)
		}
	})
}

// K5: the bytes stay as they are, also those behind the end, and what is answered doesn't follow them.
func TestBytesAreNeitherChangedNorKept(t *testing.T) {
	whole := []byte("a\r\n\x00\xff\u20acbehind")
	before := bytes.Clone(whole)
	b := whole[:8]
	first := char.All(b, 0, len(b))
	kept := strings.Clone(first)
	for at := -1; at <= len(b); at++ {
		char.Next(b, at)
	}
	if !bytes.Equal(whole, before) {
		t.Errorf("%q became %q", before, whole)
	}
	for i := range whole {
		whole[i] = 'z'
	}
	if first != kept {
		t.Errorf("%q became %q", kept, first)
	}
}

// K6: asked again, and with other questions between, the answers are the same.
func TestSameAgain(t *testing.T) {
	b := []byte("x\r\n\xe2\x82")
	first := fmt.Sprint(char.All(b, 0, 5), char.Clean("\r"), char.Clean("x"))
	char.Next([]byte("\r"), 0)
	char.All([]byte("other"), 0, 5)
	if again := fmt.Sprint(char.All(b, 0, 5), char.Clean("\r"), char.Clean("x")); again != first {
		t.Errorf("%q, not %q", again, first)
	}
}

// P1: a long text ends too, and none of it is lost.
func TestLong(t *testing.T) {
	many := 1 << 20
	if char.All([]byte(strings.Repeat("\r\n", many)), 0, 2*many) != strings.Repeat("\n", many) {
		t.Error("many lines' ends are not as many line feeds")
	}
	if char.Clean(strings.Repeat("a", many) + "\r") {
		t.Error("a byte 13 at the end of a long text is clean")
	}
}
