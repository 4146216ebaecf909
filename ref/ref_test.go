package ref_test

import (
	"bytes"
	"math"
	"math/big"
	"regexp"
	"strconv"
	"strings"
	"sync"
	"testing"
	"unicode/utf8"

	"decanter/entity"
	"decanter/ref"
)

// table is the chapter's table, row by row.
const table = `
| 20AC | - | 201A | 0192 | 201E | 2026 | 2020 | 2021 | 02C6 | 2030 | 0160 | 2039 | 0152 | - | 017D | - |
| - | 2018 | 2019 | 201C | 201D | 2022 | 2013 | 2014 | 02DC | 2122 | 0161 | 203A | 0153 | - | 017E | 0178 |
`

// tableAt gives what the chapter's table has for a number from 128 to 159.
func tableAt(n int) rune {
	cell := strings.Fields(strings.ReplaceAll(table, "|", " "))[n-128]
	if cell == "-" {
		return rune(n)
	}
	c, err := strconv.ParseInt(cell, 16, 32)
	if err != nil {
		panic(err)
	}
	return rune(c)
}

// point is the character of a number by the chapter's words, of a number as great as one likes.
func point(n *big.Int) rune {
	if !n.IsInt64() {
		return 0xfffd
	}
	switch i := n.Int64(); {
	case i == 0, i >= 55296 && i <= 57343, i > 1114111, i < 0:
		return 0xfffd
	case i >= 128 && i <= 159:
		return tableAt(int(i))
	default:
		return rune(i)
	}
}

var (
	ten     = regexp.MustCompile(`^&#([0-9]+);?`)
	sixteen = regexp.MustCompile(`^&#[xX]([0-9A-Fa-f]+);?`)
	goesOn  = regexp.MustCompile(`^[A-Za-z0-9=]`)
	names   = entity.Names()
)

// byNumber is a reference by number that begins b, by the model: what it stands for, and how many bytes it has.
func byNumber(b []byte) (string, int) {
	for base, form := range map[int]*regexp.Regexp{10: ten, 16: sixteen} {
		if m := form.FindSubmatch(b); m != nil {
			n, ok := new(big.Int).SetString(string(m[1]), base)
			if !ok {
				panic(string(m[1]))
			}
			return string(point(n)), len(m[0])
		}
	}
	return "", 0
}

// byName is a reference by name that begins b, by the model; whether it counts, too.
func byName(b []byte, attr bool) (string, int, bool) {
	longest := ""
	for _, name := range names {
		if len(name) > len(longest) && bytes.HasPrefix(b, []byte("&"+name)) {
			longest = name
		}
	}
	if longest == "" {
		return "", 0, false
	}
	behind := b[1+len(longest):]
	counts := !attr || strings.HasSuffix(longest, ";") || !goesOn.Match(behind)
	_, text := entity.Find(longest)
	return text, 1 + len(longest), counts
}

// model is Read by the chapter's words.
func model(b []byte, at int, attr bool) (string, int, bool) {
	if at < 0 || at > len(b) {
		return "", 0, false
	}
	if text, n := byNumber(b[at:]); n > 0 {
		return text, at + n, true
	}
	if text, n, counts := byName(b[at:], attr); counts {
		return text, at + n, true
	}
	return "", 0, false
}

// modelText is Text by the chapter's words, with layer 2's characters told once more.
func modelText(b []byte, from, to int, attr bool) string {
	if from >= to {
		return ""
	}
	b = bytes.Clone(b[from:to])
	out := ""
	for len(b) > 0 {
		if text, end, ok := model(b, 0, attr); ok {
			out, b = out+text, b[end:]
			continue
		}
		c, n := utf8.DecodeRune(b)
		switch {
		case c == 0:
			c = 0xfffd
		case bytes.HasPrefix(b, []byte("\r\n")):
			c, n = '\n', 2
		case c == '\r':
			c = '\n'
		}
		out, b = out+string(c), b[n:]
	}
	return out
}

// reads checks what Read answers of the bytes of a text from the byte 0 on, both within an attribute's value and outside of one.
func reads(t *testing.T, s, text string, end int) {
	t.Helper()
	readsIn(t, s, false, text, end)
	readsIn(t, s, true, text, end)
}

// readsIn checks what Read answers at the byte 0; an end 0 says that there is no reference that counts.
func readsIn(t *testing.T, s string, attr bool, text string, end int) {
	t.Helper()
	if gotText, gotEnd, ok := ref.Read([]byte(s), 0, attr); gotText != text || gotEnd != end || ok != (end > 0) {
		t.Errorf("Read(%q, 0, %v): %q, %d and %v, not %q and %d", s, attr, gotText, gotEnd, ok, text, end)
	}
}

// tells checks what Text answers of all of a text's bytes.
func tells(t *testing.T, s string, attr bool, want string) {
	t.Helper()
	if got := ref.Text([]byte(s), 0, len(s), attr); got != want {
		t.Errorf("Text(%q, .., %v): %q, not %q", s, attr, got, want)
	}
}

// P5.1: the edges that the chapter names for a number's character.
func TestPointEdges(t *testing.T) {
	for n, want := range map[int]rune{
		0: 0xfffd, 1: 1, 9: 9, 10: 10, 13: 13, 38: '&', 65: 'A', 127: 127, 128: 0x20ac, 129: 129, 159: 0x178, 160: 160, 255: 255, 256: 256,
		55295: 55295, 55296: 0xfffd, 55297: 0xfffd, 57342: 0xfffd, 57343: 0xfffd, 57344: 57344,
		65532: 65532, 65533: 0xfffd, 65534: 65534, 65535: 65535, 65536: 65536, 1114110: 1114110, 1114111: 1114111, 1114112: 0xfffd,
		-1: 0xfffd, -65: 0xfffd, -128: 0xfffd, -129: 0xfffd, math.MinInt: 0xfffd, math.MinInt + 65: 0xfffd, math.MaxInt: 0xfffd,
		1 << 31: 0xfffd, 1<<31 + 65: 0xfffd, 1 << 32: 0xfffd, 1<<32 + 65: 0xfffd, 1<<32 + 128: 0xfffd, -(1 << 32) + 65: 0xfffd,
	} {
		if got := ref.Point(n); got != want {
			t.Errorf("Point(%d): %U, not %U", n, got, want)
		}
	}
}

// P5.1: each number of the table.
func TestPointTable(t *testing.T) {
	for n := 128; n <= 159; n++ {
		if got, want := ref.Point(n), tableAt(n); got != want {
			t.Errorf("Point(%d): %U, not %U", n, got, want)
		}
		reads(t, "&#"+strconv.Itoa(n)+";", string(tableAt(n)), 6)
		reads(t, "&#"+strconv.Itoa(n), string(tableAt(n)), 5)
		reads(t, "&#x"+strconv.FormatInt(int64(n), 16), string(tableAt(n)), 5)
	}
}

// P5.1: every number that may be a character's, and some on each side.
func TestPointEveryNumber(t *testing.T) {
	for n := -1000; n < 1114112+1000; n++ {
		if got, want := ref.Point(n), point(big.NewInt(int64(n))); got != want {
			t.Fatalf("Point(%d): %U, not %U", n, got, want)
		}
	}
}

// P5.1: references by number in base 10, with a ; behind and without.
func TestReadTen(t *testing.T) {
	for digits, want := range map[string]string{
		"65": "A", "38": "&", "13": "\r", "10": "\n", "9": "\t", "0": "\ufffd", "00": "\ufffd", "127": "\x7f", "128": "\u20ac", "150": "\u2013", "159": "\u0178", "160": "\u00a0",
		"55295": "\ud7ff", "55296": "\ufffd", "57343": "\ufffd", "57344": "\ue000", "1114111": "\U0010ffff", "1114112": "\ufffd", "0065": "A", "233": "\u00e9", "8364": "\u20ac", "128512": "\U0001f600",
		"4294967361": "\ufffd", "18446744073709551681": "\ufffd", "9223372036854775807": "\ufffd", "9223372036854775808": "\ufffd",
	} {
		whole := "&#" + digits
		reads(t, whole, want, len(whole))
		reads(t, whole+";", want, len(whole)+1)
		reads(t, whole+";;", want, len(whole)+1)
		reads(t, whole+";0", want, len(whole)+1)
		for _, behind := range []string{"a", "f", "x", "X", "=", " ", "&", "#", ":", "/", "\x00", "\x80", "\xff", "\u0665", "\uff10"} {
			reads(t, whole+behind, want, len(whole))
		}
	}
}

// P5.1: references by number in base 16, behind x and X, with great and small digits.
func TestReadSixteen(t *testing.T) {
	for digits, want := range map[string]string{
		"41": "A", "4a": "J", "4A": "J", "9": "\t", "a": "\n", "A": "\n", "d": "\r", "0": "\ufffd", "7f": "\x7f", "7F": "\x7f", "80": "\u20ac", "9f": "\u0178", "9F": "\u0178", "a0": "\u00a0",
		"aBcD": "\uabcd", "d7ff": "\ud7ff", "D800": "\ufffd", "dFfF": "\ufffd", "E000": "\ue000", "10ffff": "\U0010ffff", "10FFFF": "\U0010ffff", "110000": "\ufffd", "00041": "A",
		"100000041": "\ufffd", "10000000000000041": "\ufffd", "7fffffffffffffff": "\ufffd", "ffffffffffffffff": "\ufffd",
	} {
		for _, x := range []string{"x", "X"} {
			whole := "&#" + x + digits
			reads(t, whole, want, len(whole))
			reads(t, whole+";", want, len(whole)+1)
			reads(t, whole+";;", want, len(whole)+1)
			reads(t, whole+";a", want, len(whole)+1)
			for _, behind := range []string{"g", "G", "x", "X", "=", " ", "&", "@", "`", ":", "/", "\x00", "\x80", "\xff", "\uff21"} {
				reads(t, whole+behind, want, len(whole))
			}
		}
	}
}

// P5.1: no digit behind & # , or & # x .
func TestReadNoDigit(t *testing.T) {
	for _, s := range []string{
		"&#", "&#;", "&# ", "&#a", "&#f;", "&#A0;", "&#-1;", "&#+1;", "&# 65;", "&#&#65;", "&##65;", "&#\x00", "&#\xff", "&#/", "&#:", "&#\uff11;", "&#y41;",
		"&#x", "&#X", "&#x;", "&#X;", "&#xg", "&#xG1;", "&#x-1;", "&#xx41;", "&#xX41;", "&#x 41;", "&#x#41;", "&#x\x00", "&#x@", "&#x`", "&#x:", "&#x/", "&#x\uff21",
		"& #65;", "&x41;", "&65;", "&;", "&",
	} {
		reads(t, s, "", 0)
	}
}

// P5.1: numbers of very many digits, and of very many digits 0 ahead.
func TestReadManyDigits(t *testing.T) {
	for _, many := range []int{7, 8, 16, 17, 19, 20, 21, 64, 1000, 1 << 20} {
		for _, x := range []string{"", "x", "X"} {
			head := "&#" + x
			reads(t, head+strings.Repeat("9", many)+";", "\ufffd", len(head)+many+1)
			reads(t, head+"1"+strings.Repeat("0", many)+";", "\ufffd", len(head)+many+2)
			reads(t, head+"1"+strings.Repeat("0", many)+"65 ", "\ufffd", len(head)+many+3)
			reads(t, head+strings.Repeat("0", many), "\ufffd", len(head)+many)
			reads(t, head+strings.Repeat("0", many)+"21;", map[bool]string{true: "\x15", false: "!"}[x == ""], len(head)+many+3)
		}
	}
}

// P5.1: a number of each count of digits 1 that may wrap round.
func TestReadNeverWraps(t *testing.T) {
	for many := 1; many < 80; many++ {
		for _, digit := range "123456789abcdefABCDEF" {
			for _, head := range []string{"&#", "&#x", "&#X"} {
				b := []byte(head + strings.Repeat(string(digit), many) + ";")
				same(t, b, 0, false)
			}
		}
	}
}

// P5.1: a byte 0 is no part of a reference, and passed over nowhere.
func TestReadByteZero(t *testing.T) {
	for _, s := range []string{"&\x00#65;", "&#\x0065;", "&#\x00x41;", "&#x\x0041;", "&\x00lt;", "&l\x00t;", "&\x00", "\x00&lt;", "&\x00amp;"} {
		reads(t, s, "", 0)
	}
	reads(t, "&#6\x005;", "\x06", 3)
	reads(t, "&#65\x00;", "A", 4)
	reads(t, "&#x4\x001;", "\x04", 4)
	reads(t, "&lt\x00;", "<", 3)
	reads(t, "&not\x00in;", "\u00ac", 4)
	reads(t, "&euro\x00;", "", 0)
}

// P5.1: each name, with its ; and, where it is one so, without.
func TestReadEachName(t *testing.T) {
	for _, name := range names {
		_, want := entity.Find(name)
		whole := "&" + name
		reads(t, whole, want, len(whole))
		for _, behind := range []string{" ", "\"", "'", "<", ">", "&", "#", "-", "_", ":", "/", "@", "[", "`", "{", "\x00", "\n", "\r", "\x80", "\xc3", "\xe1", "\xff", "\u00e9", "\uff21"} {
			reads(t, whole+behind, want, len(whole))
		}
		for _, behind := range []string{"=", "x", "Z", "0", "9"} {
			readsIn(t, whole+behind, false, want, len(whole))
			if strings.HasSuffix(name, ";") {
				readsIn(t, whole+behind, true, want, len(whole))
			} else {
				readsIn(t, whole+behind, true, "", 0)
			}
		}
	}
}

// P5.1: whatever byte stands behind a name without a ; .
func TestReadEachByteBehind(t *testing.T) {
	for c := range 256 {
		s := "&copy" + string([]byte{byte(c)})
		want, end := "\u00a9", 5
		if c == ';' {
			end++
		}
		readsIn(t, s, false, want, end)
		if c < 128 && strings.IndexByte("ABCDEFGHIJKLMNOPQRSTUVWXYZabcdefghijklmnopqrstuvwxyz0123456789=", byte(c)) >= 0 {
			want, end = "", 0
		}
		readsIn(t, s, true, want, end)
	}
}

// P5.1: of several names the longest one; a shorter one is not taken where that one doesn't count.
func TestReadLongestName(t *testing.T) {
	reads(t, "&not", "\u00ac", 4)
	reads(t, "&not;", "\u00ac", 5)
	reads(t, "&not;in;", "\u00ac", 5)
	reads(t, "&notin;", "\u2209", 7)
	reads(t, "&notin;;", "\u2209", 7)
	reads(t, "&notin;x", "\u2209", 7)
	readsIn(t, "&notin", false, "\u00ac", 4)
	readsIn(t, "&notin", true, "", 0)
	readsIn(t, "&notin=", false, "\u00ac", 4)
	readsIn(t, "&notin=", true, "", 0)
	readsIn(t, "&notit;", false, "\u00ac", 4)
	readsIn(t, "&notit;", true, "", 0)
	reads(t, "&acE;", "\u223e\u0333", 5)
	reads(t, "&nvlt;=", "<\u20d2", 6)
	reads(t, "&NewLine;a", "\n", 9)
	reads(t, "&NewLine", "", 0)
	reads(t, "&lt;;", "<", 4)
}

// P5.1: what is no name.
func TestReadNoName(t *testing.T) {
	for _, s := range []string{"", "a", "amp;", ";", "&", "&&", "&&lt;", "& lt;", "&x", "&;", "&=", "&am;", "&Lt;", "&apos", "&euro", "&euro ;", "&foo;", "&\xff", "&\u00e9", "\xff&lt;", "&\rlt;", "&am"} {
		reads(t, s, "", 0)
	}
}

// P5.1: the byte that is asked for need not be the first one; all others than an & begin no reference.
func TestReadAt(t *testing.T) {
	b := []byte("x&lt;&#65&amp")
	type answer struct {
		text string
		end  int
	}
	want := map[int]answer{1: {"<", 5}, 5: {"A", 9}, 9: {"&", 13}}
	for at := -3; at <= len(b)+3; at++ {
		for _, attr := range []bool{false, true} {
			w := want[at]
			if text, end, ok := ref.Read(b, at, attr); text != w.text || end != w.end || ok != (w.end > 0) {
				t.Errorf("%d: %q, %d and %v", at, text, end, ok)
			}
		}
	}
}

// P5.1: at the last byte, at the end, below 0 and above the length, there is none.
func TestReadNowhere(t *testing.T) {
	for _, b := range [][]byte{nil, {}, []byte("&"), []byte("a&"), []byte("&lt;&"), []byte("&lt;")} {
		for _, at := range []int{math.MinInt, math.MinInt + 1, -4, -2, -1, len(b) - 1, len(b), len(b) + 1, math.MaxInt - 1, math.MaxInt} {
			for _, attr := range []bool{false, true} {
				if text, end, ok := ref.Read(b, at, attr); text != "" || end != 0 || ok {
					t.Errorf("Read(%q, %d, %v): %q, %d and %v", b, at, attr, text, end, ok)
				}
			}
		}
	}
}

// P5.1: bytes behind b's end, in its memory alone, are none of b's.
func TestReadStaysWithinLength(t *testing.T) {
	long := []byte("&notin;&copy=&#655;")
	for from := range long {
		for to := from; to <= len(long); to++ {
			b := long[from:to]
			for _, attr := range []bool{false, true} {
				same(t, b, 0, attr)
				if got, want := ref.Text(b, 0, len(b), attr), modelText(b, 0, len(b), attr); got != want {
					t.Errorf("Text(%q, .., %v): %q, not %q", b, attr, got, want)
				}
			}
		}
	}
}

// same checks Read at a byte by the model.
func same(t *testing.T, b []byte, at int, attr bool) {
	t.Helper()
	text, end, ok := model(b, at, attr)
	if gotText, gotEnd, gotOK := ref.Read(b, at, attr); gotText != text || gotEnd != end || gotOK != ok {
		t.Errorf("Read(%q, %d, %v): %q, %d and %v, not %q, %d and %v", b, at, attr, gotText, gotEnd, gotOK, text, end, ok)
	}
}

// each calls do with all texts of some pieces, as many one behind the other as are told.
func each(pieces []string, many int, do func(b []byte)) {
	var grow func(s string, left int)
	grow = func(s string, left int) {
		if left == 0 {
			do([]byte(s))
			return
		}
		for _, piece := range pieces {
			grow(s+piece, left-1)
		}
	}
	grow("", many)
}

// P5.1, P5.2: Read and Text are the model, at short texts of all that a reference may be made of.
func TestModelOfShortTexts(t *testing.T) {
	pieces := []string{"&", "#", "x", "X", "0", "6", "9", "a", "F", "g", ";", "=", "lt", "not", "in", "\x00", "\r", "\n", "\xc3", "\xa9", " "}
	for many := range 5 {
		each(pieces, many, func(b []byte) {
			if len(b) > 0 && b[0] != '&' && many == 4 {
				return
			}
			for _, attr := range []bool{false, true} {
				same(t, b, 0, attr)
				if got, want := ref.Text(b, 0, len(b), attr), modelText(b, 0, len(b), attr); got != want {
					t.Errorf("Text(%q, .., %v): %q, not %q", b, attr, got, want)
				}
			}
		})
	}
}

// P5.2: the chapter's example.
func TestExample(t *testing.T) {
	tells(t, "&lt;b &#33", false, "<b !")
	tells(t, "&copy=1", true, "&copy=1")
	tells(t, "&copy=1", false, "\u00a9=1")
}

// P5.2: texts with references, and with an & that begins none.
func TestText(t *testing.T) {
	for _, x := range []struct{ s, outside, within string }{
		{"", "", ""},
		{"abc", "abc", "abc"},
		{"a & b", "a & b", "a & b"},
		{"&", "&", "&"},
		{"&&&", "&&&", "&&&"},
		{"&&lt;", "&<", "&<"},
		{"&lt;&gt&amp;lt;", "<>&lt;", "<>&lt;"},
		{"&amp;amp;", "&amp;", "&amp;"},
		{"&#38;lt;", "&lt;", "&lt;"},
		{"&#38#38;", "&#38;", "&#38;"},
		{"&#x26;#65;", "&#65;", "&#65;"},
		{"&foo;&bar", "&foo;&bar", "&foo;&bar"},
		{"&#;&#x;&#xg", "&#;&#x;&#xg", "&#;&#x;&#xg"},
		{"&#&lt;", "&#<", "&#<"},
		{"&#x&#65;", "&#xA", "&#xA"},
		{"?a=1&copy=2&reg=3", "?a=1\u00a9=2\u00ae=3", "?a=1&copy=2&reg=3"},
		{"?a&lt1&ltx&lt;=&lt", "?a<1<x<=<", "?a&lt1&ltx<=<"},
		{"&ampamp;", "&amp;", "&ampamp;"},
		{"&ampx&amp;x", "&x&x", "&ampx&x"},
		{"&notin;&notin&not;in", "\u2209\u00acin\u00acin", "\u2209&notin\u00acin"},
		{"&lt&lt&lt", "<<<", "<<<"},
		{"&#65&#66=&#x43;D", "AB=CD", "AB=CD"},
		{"&acE;&nvlt;", "\u223e\u0333<\u20d2", "\u223e\u0333<\u20d2"},
		{"\u00e9&euro;\u20ac\U0001f600", "\u00e9\u20ac\u20ac\U0001f600", "\u00e9\u20ac\u20ac\U0001f600"},
	} {
		tells(t, x.s, false, x.outside)
		tells(t, x.s, true, x.within)
	}
}

// P5.2: bytes 0 and 13, and bytes that are no UTF-8, beside references.
func TestTextOddBytes(t *testing.T) {
	for s, want := range map[string]string{
		"\x00":               "\ufffd",
		"&\x00lt;":           "&\ufffdlt;",
		"&lt\x00;":           "<\ufffd;",
		"&#\x0065;":          "&#\ufffd65;",
		"&#6\x005;":          "\x06\ufffd5;",
		"\r":                 "\n",
		"\r\n":               "\n",
		"\n\r":               "\n\n",
		"\r\r\n\n":           "\n\n\n",
		"&\r\nlt;":           "&\nlt;",
		"&lt\r\n;":           "<\n;",
		"&#13;\r":            "\r\n",
		"&#13;\n":            "\r\n",
		"\r&#10;":            "\n\n",
		"\r&NewLine;":        "\n\n",
		"\xff&lt;\xfe":       "\ufffd<\ufffd",
		"\xc3&lt;":           "\ufffd<",
		"&\xc3\xa9;":         "&\u00e9;",
		"\xe2\x82&gt;":       "\ufffd\ufffd>",
		"&gt\x80":            ">\ufffd",
		"\xed\xa0\x80":       "\ufffd\ufffd\ufffd",
		"&#0;&#xd800;&#x80;": "\ufffd\ufffd\u20ac",
	} {
		tells(t, s, false, want)
		tells(t, s, true, want)
	}
}

// P5.2: only the bytes from from up to to count, as if there were no others.
func TestTextWithin(t *testing.T) {
	for _, x := range []struct {
		s        string
		from, to int
		attr     bool
		want     string
	}{
		{"x&copy;y", 0, 8, false, "x\u00a9y"},
		{"x&copy;y", 1, 7, false, "\u00a9"},
		{"x&copy;y", 1, 6, false, "\u00a9"},
		{"x&copy;y", 1, 5, false, "&cop"},
		{"x&copy;y", 1, 2, false, "&"},
		{"x&copy;y", 2, 8, false, "copy;y"},
		{"x&copy;y", 7, 8, false, "y"},
		{"x&copy;y", 8, 8, false, ""},
		{"&notin;", 0, 6, false, "\u00acin"},
		{"&notin;", 0, 6, true, "&notin"},
		{"&notin;", 0, 4, true, "\u00ac"},
		{"&euro;", 0, 5, false, "&euro"},
		{"&copy=1", 0, 5, true, "\u00a9"},
		{"&copy=1", 0, 6, true, "&copy="},
		{"&#655;", 0, 6, false, "\u028f"},
		{"&#655;", 0, 4, false, "A"},
		{"&#655;", 0, 3, false, "\x06"},
		{"&#655;", 0, 2, false, "&#"},
		{"&#655;", 1, 6, false, "#655;"},
		{"&#x41;", 0, 3, false, "&#x"},
		{"&#x41;", 0, 4, false, "\x04"},
		{"a\r\nb", 0, 2, false, "a\n"},
		{"a\r\nb", 2, 4, false, "\nb"},
		{"a\u20acb", 0, 2, false, "a\ufffd"},
		{"a\u20acb", 0, 3, false, "a\ufffd\ufffd"},
		{"a\u20acb", 2, 5, false, "\ufffd\ufffdb"},
	} {
		if got := ref.Text([]byte(x.s), x.from, x.to, x.attr); got != x.want {
			t.Errorf("Text(%q, %d, %d, %v): %q, not %q", x.s, x.from, x.to, x.attr, got, x.want)
		}
	}
}

// P5.2: from any byte up to any other one, equal or ahead of it too.
func TestTextFromAnywhere(t *testing.T) {
	for _, s := range []string{
		"", "a", "&", "x&copy;y&notin;&copy=1&lt", "&#65;&#x4a;&#128&#0;&#99999999;z", "a\r\n\x00\xff\u20ac&\xc3\xa9&am&amp;p;\r", "&#x&#&&;&=\x00&not\x00in;",
	} {
		b := []byte(s)
		for from := 0; from <= len(b); from++ {
			for to := 0; to <= len(b); to++ {
				for _, attr := range []bool{false, true} {
					if got, want := ref.Text(b, from, to, attr), modelText(b, from, to, attr); got != want {
						t.Errorf("Text(%q, %d, %d, %v): %q, not %q", b, from, to, attr, got, want)
					}
				}
			}
		}
	}
}

// P5.2: from equal to to, and above it: nothing.
func TestTextOfNothing(t *testing.T) {
	b := []byte("&lt;abc")
	for from := 0; from <= len(b); from++ {
		for to := 0; to <= from; to++ {
			if got := ref.Text(b, from, to, false); got != "" {
				t.Errorf("%d to %d: %q", from, to, got)
			}
		}
	}
	if got := ref.Text(nil, 0, 0, true); got != "" {
		t.Errorf("%q", got)
	}
}

// K7: numbers that the chapter doesn't name make no call panic, nor run on.
func TestTextOutside(t *testing.T) {
	numbers := []int{math.MinInt, -9, -1, 0, 3, 7, 8, 100, math.MaxInt}
	for _, b := range [][]byte{nil, []byte("&lt;abc")} {
		for _, from := range numbers {
			for _, to := range numbers {
				ref.Text(b, from, to, true)
			}
		}
	}
}

// P5.2: long texts are gone through to their ends, in a time that their length bounds.
func TestLongTexts(t *testing.T) {
	const many = 1 << 19
	for piece, want := range map[string]string{"&": "&", "&#": "&#", "&#x": "&#x", "&lt;": "<", "&not": "\u00ac", "&notin": "\u00acin", "&#65": "A", "\r\n": "\n", "\xff": "\ufffd"} {
		tells(t, strings.Repeat(piece, many), false, strings.Repeat(want, many))
	}
}

// K5: what is handed in stays as it was, and what is answered stays when that changes.
func TestNotChangedNotKept(t *testing.T) {
	const s = "\r\nab&lt;\x00&copy=\xff&#65;"
	whole := []byte(s + "behind")
	b := whole[:len(s)]
	text := ref.Text(b, 0, len(b), true)
	piece := ref.Text(b, 2, 4, true)
	name, _, _ := ref.Read(b, 4, true)
	number, _, _ := ref.Read(b, 16, true)
	if string(whole) != s+"behind" {
		t.Errorf("the bytes have become %q", whole)
	}
	for at := range whole {
		whole[at] = '-'
	}
	if text != "\nab<\ufffd&copy=\ufffdA" || piece != "ab" || name != "<" || number != "A" {
		t.Errorf("%q, %q, %q and %q", text, piece, name, number)
	}
}

// K6: a call answers the same each time, whoever calls beside it.
func TestSameAgain(t *testing.T) {
	b := []byte("&lt;b &#128;&copy=1")
	var all sync.WaitGroup
	for range 8 {
		all.Add(1)
		go func() {
			defer all.Done()
			for range 100 {
				if ref.Text(b, 0, len(b), true) != "<b \u20ac&copy=1" || ref.Point(130) != 0x201a {
					t.Error("another answer")
				}
				if text, end, ok := ref.Read(b, 6, false); text != "\u20ac" || end != 12 || !ok {
					t.Error(text, end, ok)
				}
			}
		}()
	}
	all.Wait()
}
