package entity_test

import (
	"math"
	"slices"
	"strings"
	"sync"
	"testing"
	"unsafe"

	"decanter/entity"
)

// row is a row of the chapter's table: a name without its ; , whether it is one by itself, and its characters' numbers.
type row struct {
	bare  string
	alone bool
	chars []rune
}

// table is the chapter's table, its two halves one behind the other.
var table = []row{
	{"AMP", true, []rune{0x0026}},
	{"GT", true, []rune{0x003e}},
	{"LT", true, []rune{0x003c}},
	{"QUOT", true, []rune{0x0022}},
	{"amp", true, []rune{0x0026}},
	{"copy", true, []rune{0x00a9}},
	{"deg", true, []rune{0x00b0}},
	{"divide", true, []rune{0x00f7}},
	{"gt", true, []rune{0x003e}},
	{"lt", true, []rune{0x003c}},
	{"nbsp", true, []rune{0x00a0}},
	{"not", true, []rune{0x00ac}},
	{"para", true, []rune{0x00b6}},
	{"quot", true, []rune{0x0022}},
	{"reg", true, []rune{0x00ae}},
	{"sect", true, []rune{0x00a7}},
	{"times", true, []rune{0x00d7}},
	{"yen", true, []rune{0x00a5}},
	{"NewLine", false, []rune{0x000a}},
	{"Tab", false, []rune{0x0009}},
	{"acE", false, []rune{0x223e, 0x0333}},
	{"alpha", false, []rune{0x03b1}},
	{"apos", false, []rune{0x0027}},
	{"beta", false, []rune{0x03b2}},
	{"bull", false, []rune{0x2022}},
	{"colon", false, []rune{0x003a}},
	{"euro", false, []rune{0x20ac}},
	{"ge", false, []rune{0x2265}},
	{"hellip", false, []rune{0x2026}},
	{"infin", false, []rune{0x221e}},
	{"ldquo", false, []rune{0x201c}},
	{"le", false, []rune{0x2264}},
	{"lpar", false, []rune{0x0028}},
	{"lsquo", false, []rune{0x2018}},
	{"mdash", false, []rune{0x2014}},
	{"ndash", false, []rune{0x2013}},
	{"notin", false, []rune{0x2209}},
	{"nvlt", false, []rune{0x003c, 0x20d2}},
	{"rdquo", false, []rune{0x201d}},
	{"rpar", false, []rune{0x0029}},
	{"rsquo", false, []rune{0x2019}},
	{"sol", false, []rune{0x002f}},
	{"trade", false, []rune{0x2122}},
}

// names gives the model's names, each with what it stands for.
func names() map[string]string {
	all := map[string]string{}
	for _, r := range table {
		all[r.bare+";"] = string(r.chars)
		if r.alone {
			all[r.bare] = string(r.chars)
		}
	}
	return all
}

// find is Find by going through all of the model's names.
func find(all map[string]string, s string) (int, string) {
	n, text := 0, ""
	for name, is := range all {
		if len(name) > n && strings.HasPrefix(s, name) {
			n, text = len(name), is
		}
	}
	return n, text
}

// want checks what Find answers of a text.
func want(t *testing.T, s string, n int, text string) {
	t.Helper()
	if gotN, gotText := entity.Find(s); gotN != n || gotText != text {
		t.Errorf("Find(%q): %d and %q, not %d and %q", s, gotN, gotText, n, text)
	}
}

// P4.1: each name with its ; , whatever stands behind; and without, where it has a mark.
func TestEachName(t *testing.T) {
	for _, r := range table {
		text := string(r.chars)
		for _, behind := range []string{"", ";", "x", " ", "\x00", "\x80", "\xff\xfe", "\u00e9", "amp;", r.bare} {
			want(t, r.bare+";"+behind, len(r.bare)+1, text)
		}
		for _, behind := range []string{"", "=", "_", " ", "\x00", "\x80", "\xc2", "\xff", "\u00e9", "\u037e", ":"} {
			if r.alone {
				want(t, r.bare+behind, len(r.bare), text)
			} else if r.bare != "notin" {
				want(t, r.bare+behind, 0, "")
			}
		}
	}
}

// P4.1: a name without a mark is none without its ; , but one that begins it may be.
func TestUnmarked(t *testing.T) {
	want(t, "notin", 3, "\u00ac")
	want(t, "notin:", 3, "\u00ac")
	want(t, "apos", 0, "")
	want(t, "apos ;", 0, "")
	want(t, "ge", 0, "")
	want(t, "NewLine", 0, "")
	want(t, "NewLine\n", 0, "")
	want(t, "acE", 0, "")
	want(t, "nvlt", 0, "")
	want(t, "euro\u037e", 0, "")
}

// P4.1: of several names that begin a text the longest one.
func TestLongestOfSeveral(t *testing.T) {
	want(t, "not", 3, "\u00ac")
	want(t, "not;", 4, "\u00ac")
	want(t, "not;in;", 4, "\u00ac")
	want(t, "noti", 3, "\u00ac")
	want(t, "noti;", 3, "\u00ac")
	want(t, "notin;", 6, "\u2209")
	want(t, "notin;;", 6, "\u2209")
	want(t, "notinx;", 3, "\u00ac")
	want(t, "lt", 2, "<")
	want(t, "lt;", 3, "<")
	want(t, "lt;;", 3, "<")
	want(t, "lte;", 2, "<")
	want(t, "le;", 3, "\u2264")
	want(t, "le", 0, "")
	want(t, "gt;", 3, ">")
	want(t, "ge;", 3, "\u2265")
	want(t, "amp;amp;", 4, "&")
	want(t, "ampamp;", 3, "&")
	want(t, "divide", 6, "\u00f7")
	want(t, "divide;", 7, "\u00f7")
	want(t, "timesx", 5, "\u00d7")
	want(t, "NewLine;;", 8, "\n")
}

// P4.1: texts that no name begins.
func TestNone(t *testing.T) {
	for _, s := range []string{
		"", ";", " ", "x", "a", "am", "am;", "aamp;", " amp;", "&amp;", ";amp;", "\x00amp;", "\x80", "\xff", "\xffamp;",
		"no", "no;", "l", "l;", "n;", "N", "NewLin;", "newline;", "eurO;", "cop", "cop;", "ye;", "38;", "#38;", "foo;", "\u00e9;",
		"am\x00p;", "a\u2009mp;", "\uff41mp;", "AM", "Ta;", "Tab", "nvl;", "NewLineNewLine;", strings.Repeat("z", 1000),
	} {
		want(t, s, 0, "")
	}
}

// P4.1: a text that ends within a name.
func TestEndsWithin(t *testing.T) {
	all := names()
	for name := range all {
		for end := range len(name) + 1 {
			n, text := find(all, name[:end])
			want(t, name[:end], n, text)
		}
	}
	want(t, "hel", 0, "")
	want(t, "hellip", 0, "")
	want(t, "NewLin", 0, "")
	want(t, "quo", 0, "")
}

// P4.1: great letters and small ones are not the same.
func TestLetters(t *testing.T) {
	for _, two := range [][2]string{{"AMP", "amp"}, {"GT", "gt"}, {"LT", "lt"}, {"QUOT", "quot"}} {
		for _, bare := range two {
			_, text := entity.Find(two[1])
			want(t, bare, len(bare), text)
			want(t, bare+";", len(bare)+1, text)
		}
	}
	for _, s := range []string{"Amp", "Amp;", "aMP;", "Gt;", "gT;", "Lt", "lT;", "Quot;", "QUOt;", "NOT;", "COPY;", "Not", "tab;", "TAB;", "NEWLINE;", "ace;", "ACE;", "Alpha;", "EURO;", "GE;", "LE;", "REG;", "Nbsp;"} {
		want(t, s, 0, "")
	}
}

// P4.1: two characters, in UTF-8.
func TestTwoCharacters(t *testing.T) {
	want(t, "acE;", 4, "\xe2\x88\xbe\xcc\xb3")
	want(t, "acE;x", 4, "\xe2\x88\xbe\xcc\xb3")
	want(t, "nvlt;", 5, "<\xe2\x83\x92")
	want(t, "nvlt;lt;", 5, "<\xe2\x83\x92")
	want(t, "euro;", 5, "\xe2\x82\xac")
	want(t, "yen", 3, "\xc2\xa5")
}

// P4.1: Find is what the table comes to, at each name with a byte put in, left out or put in place of another, whichever byte it is.
func TestChangedByAByte(t *testing.T) {
	all := names()
	check := func(s string) {
		n, text := find(all, s)
		want(t, s, n, text)
	}
	for name := range all {
		for at := range len(name) + 1 {
			for c := range 256 {
				one := string([]byte{byte(c)})
				check(name[:at] + one + name[at:])
				if at < len(name) {
					check(name[:at] + one + name[at+1:])
				}
			}
			if at < len(name) {
				check(name[:at] + name[at+1:])
			}
		}
	}
}

// P4.1: Find is what the table comes to, at every two names one behind the other.
func TestTwoNames(t *testing.T) {
	all := names()
	for one := range all {
		for other := range all {
			n, text := find(all, one+other)
			want(t, one+other, n, text)
		}
	}
}

// P4.1: all names, with their ; where it belongs to them, and none else.
func TestNames(t *testing.T) {
	var model []string
	for name := range names() {
		model = append(model, name)
	}
	slices.Sort(model)
	got := entity.Names()
	if !slices.Equal(got, model) {
		t.Errorf("Names: %q, not %q", got, model)
	}
	for _, name := range []string{"AMP", "AMP;", "not", "not;", "notin;", "NewLine;"} {
		if !slices.Contains(got, name) {
			t.Errorf("Names lacks %q", name)
		}
	}
	for _, name := range []string{"notin", "NewLine", "ge", "", ";", "amp;;"} {
		if slices.Contains(got, name) {
			t.Errorf("Names has %q", name)
		}
	}
}

// P4.1: the names rise byte by byte, and so each of them is there once.
func TestNamesRise(t *testing.T) {
	got := entity.Names()
	if len(got) != 61 || got[0] != "AMP" || got[60] != "yen;" {
		t.Fatalf("%d names: %q", len(got), got)
	}
	for at := 1; at < len(got); at++ {
		if got[at-1] >= got[at] {
			t.Errorf("%q is ahead of %q", got[at-1], got[at])
		}
	}
}

// P4.1: Find finds each of Names as a whole.
func TestNamesAreFound(t *testing.T) {
	for _, name := range entity.Names() {
		if n, text := entity.Find(name); n != len(name) || text == "" {
			t.Errorf("Find(%q): %d and %q", name, n, text)
		}
	}
}

// The chapter's 'Types': the longest name has Longest bytes.
func TestLongest(t *testing.T) {
	longest := 0
	for _, name := range entity.Names() {
		longest = max(longest, len(name))
	}
	if named := len("NewLine;"); longest != named || entity.Longest != named {
		t.Error(longest, entity.Longest)
	}
}

// The chapter's example.
func TestExample(t *testing.T) {
	want(t, "notit", 3, "\u00ac")
	want(t, "notin;", 6, "\u2209")
}

// K5, K6: two calls of Names share no memory.
func TestNamesAreNew(t *testing.T) {
	one, other := entity.Names(), entity.Names()
	kept := slices.Clone(other)
	for at := range one {
		one[at] = "spoilt"
	}
	one = append(one[:0], "more")
	_ = append(other, "behind")
	if !slices.Equal(other, kept) || !slices.Equal(entity.Names(), kept) {
		t.Error("an answer has changed:", one, other)
	}
	want(t, "amp;", 4, "&")
}

// K5: what Find answers stays when the text's bytes change, which stay by Find themselves.
func TestTextIsNotKept(t *testing.T) {
	b := []byte("quot;>")
	n, text := entity.Find(unsafe.String(&b[0], len(b)))
	if string(b) != "quot;>" {
		t.Errorf("the text has become %q", b)
	}
	for at := range b {
		b[at] = '-'
	}
	if n != 5 || text != "\"" {
		t.Error(n, text)
	}
}

// P1, K6: a long text, whatever follows the name, and calls at the same time.
func TestLongAndTogether(t *testing.T) {
	long := "notin" + strings.Repeat(";", math.MaxUint16)
	var all sync.WaitGroup
	for range 8 {
		all.Add(1)
		go func() {
			defer all.Done()
			for range 100 {
				want(t, long, 6, "\u2209")
				if len(entity.Names()) != 61 {
					t.Error("not all names")
				}
			}
		}()
	}
	all.Wait()
}
