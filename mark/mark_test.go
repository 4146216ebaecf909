package mark_test

import (
	"bytes"
	"math"
	"regexp"
	"strings"
	"sync"
	"testing"

	"decanter/mark"
)

// nowhere are places that are no byte of short texts.
var nowhere = []int{-1, -2, -99, math.MinInt, math.MinInt + 1, 99, math.MaxInt - 2, math.MaxInt - 1, math.MaxInt}

// reads checks that a mark of a kind begins at a byte, and where it ends.
func reads(t *testing.T, s string, at, kind, end int) {
	t.Helper()
	if gotKind, gotEnd, ok := mark.Read([]byte(s), at); gotKind != kind || gotEnd != end || !ok {
		t.Errorf("Read(%q, %d): %d %d %v, not %d %d true", s, at, gotKind, gotEnd, ok, kind, end)
	}
}

// none checks that no mark begins at a byte.
func none(t *testing.T, b []byte, at int) {
	t.Helper()
	if kind, end, ok := mark.Read(b, at); kind != 0 || end != 0 || ok {
		t.Errorf("Read(%q, %d): %d %d %v", b, at, kind, end, ok)
	}
}

// closed checks that a text is one mark, which ends by itself: whatever stands ahead of it or behind it is none of it.
func closed(t *testing.T, s string, kind int) {
	t.Helper()
	for _, ahead := range []string{"", "x", "<", "</", "<!", "<!--", "--", "<!doctype", "\xE2", "\x00", ">"} {
		for _, behind := range []string{"", "x", ">", "->", "-->", "--!>", "<!-->", "</>", "-", "!", "\n", "\x00", "\xFF", "a>"} {
			reads(t, ahead+s+behind, len(ahead), kind, len(ahead)+len(s))
		}
	}
}

// open checks that a text is one mark whose end nothing tells: it goes on up to the end of the bytes.
func open(t *testing.T, s string, kind int) {
	t.Helper()
	for _, ahead := range []string{"", "x", "<", "</", "<!", "<!--", "-->", ">", "\xE2"} {
		reads(t, ahead+s, len(ahead), kind, len(ahead)+len(s))
	}
	for _, more := range []string{" ", "x", "\x00", "\xFF", "\n\n", "<"} {
		reads(t, s+more, 0, kind, len(s)+len(more))
	}
}

// The model reads marks by expressions, of which the first that fits counts: a bogus one's would fit other marks, too.
var models = []struct {
	kind int
	mark *regexp.Regexp
}{
	{1, regexp.MustCompile(`(?s)^<!--(>|->|.*?(-->|--!>|$))`)},
	{2, regexp.MustCompile(`^<![Dd][Oo][Cc][Tt][Yy][Pp][Ee][^>]*(>|$)`)},
	{4, regexp.MustCompile(`^</>`)},
	{3, regexp.MustCompile(`^<([!?]|/[^A-Za-z>])[^>]*(>|$)`)},
}

// modelRead is Read by the model. Its expressions see each byte as one character, as the chapter asks.
func modelRead(b []byte, at int) (int, int, bool) {
	if at < 0 || at >= len(b) {
		return 0, 0, false
	}
	plain := bytes.Clone(b[at:])
	for i, c := range plain {
		if c >= 128 {
			plain[i] = '~'
		}
	}
	for _, m := range models {
		if found := m.mark.Find(plain); found != nil {
			return m.kind, at + len(found), true
		}
	}
	return 0, 0, false
}

// byModel checks Read by the model.
func byModel(t *testing.T, b []byte, at int) {
	t.Helper()
	wantKind, wantEnd, there := modelRead(b, at)
	if kind, end, ok := mark.Read(b, at); kind != wantKind || end != wantEnd || ok != there {
		t.Fatalf("Read(%q, %d): %d %d %v, not %d %d %v", b, at, kind, end, ok, wantKind, wantEnd, there)
	}
}

// each calls do with every text up to a length, made of some pieces.
func each(pieces []string, longest int, do func(s string)) {
	var grow func(s string, left int)
	grow = func(s string, left int) {
		do(s)
		if left == 0 {
			return
		}
		for _, piece := range pieces {
			grow(s+piece, left-1)
		}
	}
	grow("", longest)
}

// Types: the kinds have their numbers, which fit any kind of integer.
func TestKinds(t *testing.T) {
	if got := [4]uint8{mark.Comment, mark.Doctype, mark.Bogus, mark.Empty}; got != [4]uint8{1, 2, 3, 4} {
		t.Error(got)
	}
}

// P8.1: the chapter's example.
func TestExample(t *testing.T) {
	reads(t, "<!-- a --> b", 0, mark.Comment, 10)
}

// P8.1, K1, K3: no bytes at all, and places where there is none.
func TestNowhere(t *testing.T) {
	for _, at := range append(nowhere, 0, 1) {
		none(t, nil, at)
		none(t, []byte{}, at)
	}
	for _, s := range []string{"<!-- a -->", "<!doctype>", "</>", "<?>", "</ >", "<!", "<", "x"} {
		for _, at := range append(nowhere, len(s), len(s)+1, -len(s)) {
			none(t, []byte(s), at)
		}
	}
}

// P8.1: at a byte within: only where the < of a mark stands, also of one within another.
func TestAtAByteWithin(t *testing.T) {
	s := "x<!--a<!--b-->c</><?d>e<!f>g</ h>i<!Doctype j>k<l></m>"
	ends := map[int][2]int{
		1: {mark.Comment, 14}, 6: {mark.Comment, 14}, 15: {mark.Empty, 18}, 18: {mark.Bogus, 22},
		23: {mark.Bogus, 27}, 28: {mark.Bogus, 33}, 34: {mark.Doctype, 46},
	}
	for at := range len(s) {
		if want, there := ends[at]; there {
			reads(t, s, at, want[0], want[1])
		} else {
			none(t, []byte(s), at)
		}
	}
}

// P8.1: a byte other than < begins no mark, whatever stands behind it.
func TestOtherBytes(t *testing.T) {
	for c := range 256 {
		for _, rest := range []string{"", "!-- a -->", "!doctype>", "!>", "?>", "/>", "/ >", "<!-->"} {
			if c != '<' {
				none(t, append([]byte{byte(c)}, rest...), 0)
			}
		}
	}
	for _, s := range []string{"a<!-->", " <!-->", "&lt;!-->", "\uFF1C!-->", "\x00<!-->", "><!-->"} {
		none(t, []byte(s), 0)
	}
}

// P8.1: a < alone, and ahead of each byte but ! , ? and / : no mark.
func TestNoMark(t *testing.T) {
	none(t, []byte("<"), 0)
	none(t, []byte("x<"), 1)
	for c := range 256 {
		if strings.IndexByte("!?/", byte(c)) >= 0 && c < 128 {
			continue
		}
		for _, rest := range []string{"", ">", "!-- -->", "-->", "!>", "?>", "/>", "doctype>"} {
			none(t, append([]byte{'<', byte(c)}, rest...), 0)
		}
	}
	for _, s := range []string{
		"<a>", "<Z>", "<a", "< !-->", "< ?>", "< />", "<\t!>", "<\n!>", "<\r!>", "<1>", "<9", "<>", "<>!", "<<!-->", "<<", "<-->", "<-",
		"<\x80!>", "<\xFF>", "<\u00E4>", "<\uFF01-->", "<\x00!>", "<=>", "<doctype>", "<--!>",
	} {
		none(t, []byte(s), 0)
	}
}

// P8.1: a comment whole, and each front of it.
func TestFrontsOfComments(t *testing.T) {
	for _, s := range []string{"<!-- a -->", "<!-- a --!>", "<!---->", "<!----!>", "<!--a-b--c---->"} {
		closed(t, s, mark.Comment)
		none(t, []byte(s[:1]), 0)
		for n := 2; n < len(s); n++ {
			kind := mark.Comment
			if n < len("<!--") {
				kind = mark.Bogus
			}
			reads(t, s[:n], 0, kind, n)
			reads(t, "x"+s[:n], 1, kind, n+1)
		}
	}
}

// P8.1: a > or a -> right behind <!-- ends a comment, and nowhere else.
func TestShortComments(t *testing.T) {
	closed(t, "<!-->", mark.Comment)
	closed(t, "<!--->", mark.Comment)
	closed(t, "<!---->", mark.Comment)
	closed(t, "<!----->", mark.Comment)
	closed(t, "<!------>", mark.Comment)
	closed(t, "<!----!>", mark.Comment)
	closed(t, "<!-- >-->", mark.Comment)
	closed(t, "<!-- ->-->", mark.Comment)
	closed(t, "<!--a>b-->", mark.Comment)
	closed(t, "<!--a->b-->", mark.Comment)
	closed(t, "<!--a>->!>b--!>", mark.Comment)
	closed(t, "<!---a>-->", mark.Comment)
	closed(t, "<!---a->-->", mark.Comment)
	closed(t, "<!---!>-->", mark.Comment)
	closed(t, "<!--!>-->", mark.Comment)
	closed(t, "<!--!->-->", mark.Comment)
	closed(t, "<!--- >-->", mark.Comment)
	open(t, "<!--a>", mark.Comment)
	open(t, "<!--a->", mark.Comment)
	open(t, "<!--!>", mark.Comment)
	open(t, "<!---!>", mark.Comment)
	open(t, "<!-- >", mark.Comment)
}

// P8.1: a comment ends with the first --> or --!> , whichever that is.
func TestEndsOfComments(t *testing.T) {
	closed(t, "<!--a-->", mark.Comment)
	closed(t, "<!--a--!>", mark.Comment)
	reads(t, "<!--a-->b--!>c", 0, mark.Comment, 8)
	reads(t, "<!--a--!>b-->c", 0, mark.Comment, 9)
	reads(t, "<!--a--!>-->", 0, mark.Comment, 9)
	reads(t, "<!--a-->--!>", 0, mark.Comment, 8)
	reads(t, "<!--a-->b-->c", 0, mark.Comment, 8)
	reads(t, "<!--a--!>b--!>c", 0, mark.Comment, 9)
	reads(t, "<!---->--!>", 0, mark.Comment, 7)
	reads(t, "<!----!>-->", 0, mark.Comment, 8)
}

// P8.1: what is nearly an end is none.
func TestNearlyEnds(t *testing.T) {
	closed(t, "<!--a--->", mark.Comment)
	closed(t, "<!--a------>", mark.Comment)
	closed(t, "<!--a---!>", mark.Comment)
	closed(t, "<!--a-- >b-->", mark.Comment)
	closed(t, "<!--a--\n>b-->", mark.Comment)
	closed(t, "<!--a--!->b-->", mark.Comment)
	closed(t, "<!--a--!-->", mark.Comment)
	closed(t, "<!--a--!--!>", mark.Comment)
	closed(t, "<!--a--! >b-->", mark.Comment)
	closed(t, "<!--a--!!>b-->", mark.Comment)
	closed(t, "<!--a-!>b-->", mark.Comment)
	closed(t, "<!--a- ->b-->", mark.Comment)
	closed(t, "<!--a--b>-->", mark.Comment)
	closed(t, "<!--a\u2014>b-->", mark.Comment)
	closed(t, "<!--a--\x00>b-->", mark.Comment)
	closed(t, "<!--a--&gt;b-->", mark.Comment)
	open(t, "<!--a-- >", mark.Comment)
	open(t, "<!--a--!-", mark.Comment)
	open(t, "<!--a--!->", mark.Comment)
	open(t, "<!--a--!", mark.Comment)
	open(t, "<!--a--", mark.Comment)
	open(t, "<!--a-", mark.Comment)
	open(t, "<!----!", mark.Comment)
	open(t, "<!----", mark.Comment)
	open(t, "<!---", mark.Comment)
	open(t, "<!--", mark.Comment)
	open(t, "<!--a--!!>", mark.Comment)
	open(t, "<!-- a <b>c</b> </> <?d> <!doctype>", mark.Comment)
}

// P8.1: a <!-- within a comment is of its text, and begins nothing that would have to end.
func TestCommentWithin(t *testing.T) {
	closed(t, "<!--a<!--b-->", mark.Comment)
	closed(t, "<!--<!-->", mark.Comment)
	closed(t, "<!--<!---->", mark.Comment)
	closed(t, "<!--a<!--b--!>", mark.Comment)
	closed(t, "<!--a<!b></c></><?d>-->", mark.Comment)
	reads(t, "<!--a<!--b-->c-->", 0, mark.Comment, 13)
	open(t, "<!--a<!--", mark.Comment)
}

// P8.1: <! with anything else behind, or nothing.
func TestBogus(t *testing.T) {
	open(t, "<!", mark.Bogus)
	reads(t, "<!", 0, mark.Bogus, 2)
	closed(t, "<!>", mark.Bogus)
	reads(t, "<!-", 0, mark.Bogus, 3)
	closed(t, "<!->", mark.Bogus)
	closed(t, "<!-a-->", mark.Bogus)
	closed(t, "<!- - a -->", mark.Bogus)
	closed(t, "<! -- a -->", mark.Bogus)
	closed(t, "<!a--b>", mark.Bogus)
	closed(t, "<!\u2014>", mark.Bogus)
	reads(t, "<!- a -> b -->", 0, mark.Bogus, 8)
	closed(t, "<![CDATA[a]]>", mark.Bogus)
	closed(t, "<![>", mark.Bogus)
	reads(t, "<![CDATA[a>b]]>", 0, mark.Bogus, 11)
	open(t, "<![", mark.Bogus)
	open(t, "<![CDATA[a]]", mark.Bogus)
	closed(t, "<!a>", mark.Bogus)
	closed(t, "<!/a>", mark.Bogus)
	closed(t, "<!!>", mark.Bogus)
	closed(t, "<!<a>", mark.Bogus)
	closed(t, "<!\"'>", mark.Bogus)
	reads(t, "<!'>'>", 0, mark.Bogus, 4)
	open(t, "<!a", mark.Bogus)
	open(t, "<!-a--", mark.Bogus)
	open(t, "<!/", mark.Bogus)
}

// P8.1: the letters of doctype, great or small, each one alone and all of them.
func TestDoctype(t *testing.T) {
	word := "doctype"
	for bits := range 1 << len(word) {
		letters := []byte(word)
		for at := range letters {
			if bits>>at&1 == 1 {
				letters[at] -= 32
			}
		}
		front := "<!" + string(letters)
		reads(t, front, 0, mark.Doctype, 9)
		reads(t, front+">x", 0, mark.Doctype, 10)
		reads(t, front+" html>x>", 0, mark.Doctype, 15)
	}
	for _, s := range []string{
		"<!doctype>", "<!DOCTYPE html>", "<!DocType\nhtml \"<a\">", "<!doctypes>", "<!doctypehtml>", "<!doctype1>", "<!doctype-->", "<!doctype<!-->",
		"<!doctype/>", "<!doctype\x00>", "<!doctype--a->", "<!doctypedoctype>",
	} {
		closed(t, s, mark.Doctype)
	}
	for _, s := range []string{"<!doctype", "<!DOCTYPE html", "<!doctypes", "<!doctype -- ", "<!doctype\xFF", "<!doctype</"} {
		open(t, s, mark.Doctype)
	}
	reads(t, "<!doctype '>'>", 0, mark.Doctype, 12)
}

// P8.1: with one letter missing, changed, moved or put in, it is a bogus one.
func TestNearlyDoctype(t *testing.T) {
	word := "doctype"
	for n := range len(word) {
		reads(t, "<!"+word[:n], 0, mark.Bogus, 2+n)
		reads(t, "<!"+word[:n]+">x", 0, mark.Bogus, 3+n)
		reads(t, "<!"+word[:n]+" >x", 0, mark.Bogus, 4+n)
		reads(t, "<!"+word[:n]+word[n+1:]+" a>x", 0, mark.Bogus, 11)
		for c := range 256 {
			changed := []byte("<!" + word + ">x")
			changed[2+n] = byte(c)
			if c == int(word[n]) || c == int(word[n])-32 {
				reads(t, string(changed), 0, mark.Doctype, 10)
			} else if c == '>' {
				reads(t, string(changed), 0, mark.Bogus, 3+n)
			} else {
				reads(t, string(changed), 0, mark.Bogus, 10)
			}
		}
	}
	for _, s := range []string{
		"<! doctype>", "<!d octype>", "<!xdoctype>", "<!-doctype>", "<!doc-type>", "<!doctyp >", "<!doctyp\u00E9>", "<!\uFF44octype>", "<!do\u03F2type>",
		"<?doctype>", "</!doctype>", "<!/doctype>", "<!doktype>", "<!docTYP>", "<!odctype>",
	} {
		closed(t, s, mark.Bogus)
	}
}

// P8.1: <? ends with the first > behind it.
func TestQuestion(t *testing.T) {
	closed(t, "<?>", mark.Bogus)
	closed(t, "<?xml ?>", mark.Bogus)
	closed(t, "<?-->", mark.Bogus)
	closed(t, "<?/>", mark.Bogus)
	closed(t, "<??>", mark.Bogus)
	closed(t, "<?<!-->", mark.Bogus)
	reads(t, "<?php '>' ?>", 0, mark.Bogus, 8)
	open(t, "<?", mark.Bogus)
	open(t, "<?xml ?", mark.Bogus)
	open(t, "<?<", mark.Bogus)
}

// P8.1: </> is an empty one, with this alone.
func TestEmpty(t *testing.T) {
	closed(t, "</>", mark.Empty)
	reads(t, "</></>", 0, mark.Empty, 3)
	reads(t, "</></>", 3, mark.Empty, 6)
	none(t, []byte("</"), 0)
	none(t, []byte("x</"), 1)
	none(t, []byte("</>"), 1)
}

// P8.1: </ ahead of each byte: of letters none, of all others but > a bogus one.
func TestBogusEnds(t *testing.T) {
	for c := range 256 {
		one := "</" + string([]byte{byte(c)})
		switch {
		case 'a' <= c && c <= 'z' || 'A' <= c && c <= 'Z':
			for _, rest := range []string{"", ">", " >", "-->", "1"} {
				none(t, []byte(one+rest), 0)
				none(t, []byte("x"+one+rest), 1)
			}
		case c == '>':
			reads(t, one+">", 0, mark.Empty, 3)
		default:
			reads(t, one, 0, mark.Bogus, 3)
			reads(t, one+">x>", 0, mark.Bogus, 4)
			reads(t, one+"a b>x", 0, mark.Bogus, 7)
			reads(t, one+"a b", 0, mark.Bogus, 6)
		}
	}
	for _, s := range []string{
		"</ >", "</ a>", "</\ta>", "</\na>", "</\ra>", "</1>", "</9a>", "</ />", "<//>", "<//a>", "</\x80>", "</\xFF>", "</\u00E9>", "</\u212A>", "</\uFF41>",
		"</\x00>", "</\x00a>", "</!-->", "</?>", "</<a>", "</@>", "</[>", "</`>", "</{>", "</--a->", "</'\">",
	} {
		closed(t, s, mark.Bogus)
	}
	for _, s := range []string{"</ ", "</ a", "</1", "<//", "</\x80", "</\xFF\xFE", "</\u00E9", "</\x00", "</<", "</!--", "</-"} {
		open(t, s, mark.Bogus)
	}
	reads(t, "</ '>'>", 0, mark.Bogus, 5)
}

// P8.1: bytes of 128 and more, whether they are UTF-8 or not, and bytes 0 and 13, are read one by one in each kind of mark.
func TestOtherBytesWithin(t *testing.T) {
	for _, in := range []string{
		"\u00E9", "\u20AC", "\U0001F600", "\x80", "\xBE", "\xFF", "\xC3", "\xE2\x82", "\xF0\x9F\x98", "\xC0\xBE", "\xED\xA0\x80", "\xFE\xFF",
		"\x00", "\r", "\r\n", "\uFF1E", "\u203A", "\x00\x80\xFF\x00", "&gt;", "\u2014\uFF1E",
	} {
		closed(t, "<!--"+in+"-->", mark.Comment)
		closed(t, "<!--a"+in+"--!>", mark.Comment)
		closed(t, "<!---"+in+">-->", mark.Comment)
		closed(t, "<!--a--"+in+">-->", mark.Comment)
		closed(t, "<!doctype"+in+">", mark.Doctype)
		closed(t, "<!doctype a"+in+"b>", mark.Doctype)
		closed(t, "<!"+in+">", mark.Bogus)
		closed(t, "<!"+in+"doctype>", mark.Bogus)
		closed(t, "<!-"+in+"->", mark.Bogus)
		closed(t, "<?"+in+">", mark.Bogus)
		closed(t, "<?a"+in+"b>", mark.Bogus)
		closed(t, "</"+in+">", mark.Bogus)
		closed(t, "</ "+in+"a>", mark.Bogus)
		open(t, "<!--"+in, mark.Comment)
		open(t, "<!doctype"+in, mark.Doctype)
		open(t, "<!"+in, mark.Bogus)
		open(t, "<?"+in, mark.Bogus)
		open(t, "</"+in, mark.Bogus)
		none(t, []byte("<"+in+">"), 0)
		none(t, []byte("<"+in+"!-->"), 0)
	}
}

// P8.1: bytes behind b's end, in its memory alone, are none of b's.
func TestStaysWithinLength(t *testing.T) {
	for _, s := range []string{"<!-- a -->", "<!-->", "<!--->", "<!----!>", "<!doctype a>", "<![a]>", "<?a>", "</>", "</ a>", "</a>"} {
		for n := range len(s) {
			wantKind, wantEnd, there := modelRead([]byte(s[:n]), 0)
			if kind, end, ok := mark.Read([]byte(s)[:n], 0); kind != wantKind || end != wantEnd || ok != there {
				t.Errorf("%q: %d %d %v", s[:n], kind, end, ok)
			}
		}
	}
}

// P8.1: at all short texts of what marks begin and end with, at each byte and on either side, by the model.
func TestModelOfBeginnings(t *testing.T) {
	each([]string{"<", "!", "?", "/", "-", ">", "a", "Z", " ", "1", "\x80"}, 5, func(s string) {
		for at := -1; at <= len(s)+1; at++ {
			byModel(t, []byte(s), at)
		}
	})
}

// P8.1: at all short texts behind each kind's beginning, by the model.
func TestModelOfEnds(t *testing.T) {
	for _, front := range []string{"<!--", "<!-", "<!doctype", "<!doctyp", "<?", "</", "</ "} {
		each([]string{"-", ">", "!", "<", "a", "e", "\xFF"}, 6, func(s string) { byModel(t, []byte(front+s), 0) })
	}
	each([]string{"-", ">", "!", "a"}, 8, func(s string) { byModel(t, []byte("<!--"+s), 0) })
}

// P8.1: each byte at each place of a mark, by the model.
func TestModelOfEachByte(t *testing.T) {
	for _, s := range []string{"<!-- a -->b", "<!--a--!>-->", "<!-->-->", "<!---->", "<!DocType a>b>", "<![a]>b>", "<?a?>b>", "</>b>", "</ a>b>", "</a>b>"} {
		for at := range len(s) {
			for c := range 256 {
				byModel(t, []byte(s[:at]+string([]byte{byte(c)})+s[at:]), 0)
				changed := []byte(s)
				changed[at] = byte(c)
				byModel(t, changed, 0)
			}
		}
	}
}

// P1, P8.1: long marks are read to their ends, and very many of them one behind the other.
func TestLongMarks(t *testing.T) {
	const n = 1 << 20
	for _, in := range []string{"a", "-", "--!", "<!--", "-- >", "\xFF", "\u20AC"} {
		long := strings.Repeat(in, n/len(in))
		reads(t, "<!--a"+long, 0, mark.Comment, 5+len(long))
		reads(t, "<!--a"+long+"b-->c", 0, mark.Comment, 9+len(long))
	}
	for _, front := range []string{"<!", "<?", "</1"} {
		reads(t, front+strings.Repeat("<", n)+">b", 0, mark.Bogus, len(front)+n+1)
		reads(t, front+strings.Repeat("<", n), 0, mark.Bogus, len(front)+n)
	}
	reads(t, "<!doctype"+strings.Repeat("<!", n)+">b", 0, mark.Doctype, 10+2*n)
	for _, one := range []string{"<!--a-->", "<!--a--!>", "<!a>", "</>"} {
		all := []byte(strings.Repeat(one, 200000))
		for at := 0; at < len(all); at += len(one) {
			if _, end, ok := mark.Read(all, at); end != at+len(one) || !ok {
				t.Fatalf("%q at %d: %d %v", one, at, end, ok)
			}
		}
	}
}

// K5: what is handed in stays as it was, ahead of its end and behind it.
func TestNotChanged(t *testing.T) {
	for _, s := range []string{"x<!-- A -->y", "x<!--A", "x<!DocType A>y", "x<!DOCTYPE", "x<!A>y", "x<?A>y", "x</>y", "x</ A>y", "x</A>y", "x<A>"} {
		b := append(make([]byte, 0, 99), s...)
		spare := b[:cap(b)]
		copy(spare[len(s):], strings.Repeat("Z", 99))
		before := bytes.Clone(spare)
		for at := -1; at <= len(b); at++ {
			mark.Read(b, at)
		}
		if !bytes.Equal(spare, before) {
			t.Errorf("%q changed: %q", s, spare)
		}
	}
}

// K5, K6: nothing of what was handed in is kept: bytes that are changed are read anew, and the same ones as before, by many at once.
func TestSameAgain(t *testing.T) {
	b := []byte("<!--a-->b-->")
	reads(t, string(b), 0, mark.Comment, 8)
	if kind, end, ok := mark.Read(b, 0); kind != mark.Comment || end != 8 || !ok {
		t.Error(kind, end, ok)
	}
	b[7] = 'x'
	if kind, end, ok := mark.Read(b, 0); kind != mark.Comment || end != 12 || !ok {
		t.Error(kind, end, ok)
	}
	texts := []string{"<!--a--!>-->", "<!DOCTYPE a>", "</>", "</a>", "<?a", "<![a]>b", "<"}
	var group sync.WaitGroup
	for range 8 {
		group.Go(func() {
			for i := range 200 {
				b := []byte(texts[i%len(texts)])
				wantKind, wantEnd, there := modelRead(b, 0)
				if kind, end, ok := mark.Read(b, 0); kind != wantKind || end != wantEnd || ok != there {
					t.Errorf("%q: %d %d %v", b, kind, end, ok)
				}
			}
		})
	}
	group.Wait()
}
