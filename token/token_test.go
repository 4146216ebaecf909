package token_test

import (
	"bytes"
	"fmt"
	"math"
	"reflect"
	"regexp"
	"strings"
	"sync"
	"testing"

	"decanter/api"
	"decanter/char"
	"decanter/mark"
	"decanter/ref"
	"decanter/tag"
	"decanter/token"
)

// The names of elements, by the ways of their texts.
var (
	tagged = []string{"", "a", "b", "p", "div", "pre", "noscript", "listing", "svg", "TITLE", "Style", "title ", "/title", "\x00", "\xFF"}
	refs   = []string{"textarea", "title"}
	plain  = []string{"plaintext"}
	byted  = []string{"iframe", "noembed", "noframes", "script", "style", "xmp"}
)

// ended are the names of elements whose text ends with their end tag.
var ended = append(append([]string{}, refs...), byted...)

// raws are the nine names whose way isn't Tags.
var raws = append(append([]string{}, ended...), plain...)

// everyWay has names of each way.
var everyWay = append(append([]string{}, tagged...), raws...)

// text gives a text's token.
func text(s string, from, to int) api.Token {
	return api.Token{Kind: api.Text, Text: s, From: from, To: to}
}

// start gives a start tag's token.
func start(name string, from, to int, attrs ...api.Attr) api.Token {
	return api.Token{Kind: api.Start, Name: name, Attrs: attrs, From: from, To: to}
}

// end gives an end tag's token.
func end(name string, from, to int) api.Token {
	return api.Token{Kind: api.End, Name: name, From: from, To: to}
}

// nothing gives the token of what tells nothing.
func nothing(from, to int) api.Token { return api.Token{From: from, To: to} }

// same tells whether two tokens are the same; a list that is nil and an empty one are.
func same(a, b api.Token) bool {
	if len(a.Attrs) == 0 && len(b.Attrs) == 0 {
		a.Attrs, b.Attrs = nil, nil
	}
	return reflect.DeepEqual(a, b)
}

// next checks the token at a byte, in an element.
func next(t *testing.T, s string, at int, in string, want api.Token) {
	t.Helper()
	got, ok := token.Next([]byte(s), at, in)
	if !ok || !same(got, want) {
		t.Errorf("Next(%q, %d, %q): %+v %v, not %+v", s, at, in, got, ok, want)
	}
}

// nextInTags checks the token at a byte, in elements of the way Tags.
func nextInTags(t *testing.T, s string, at int, want api.Token) {
	t.Helper()
	for _, in := range tagged {
		next(t, s, at, in, want)
	}
}

// all checks all tokens.
func all(t *testing.T, s string, want ...api.Token) {
	t.Helper()
	got := token.All([]byte(s))
	if len(got) != len(want) {
		t.Errorf("All(%q): %+v, not %+v", s, got, want)
		return
	}
	for i := range got {
		if !same(got[i], want[i]) {
			t.Errorf("All(%q): %d: %+v, not %+v", s, i, got[i], want[i])
		}
	}
}

// mixed gives a name with every second letter a great one.
func mixed(name string) string {
	b := []byte(name)
	for at := 0; at < len(b); at += 2 {
		b[at] -= 32
	}
	return string(b)
}

// spellings gives a name with small, great and mixed letters.
func spellings(name string) []string { return []string{name, strings.ToUpper(name), mixed(name)} }

// oneByte gives a byte as a text.
func oneByte(c int) string { return string([]byte{byte(c)}) }

// breaks are the model's expression of where a tag or a mark begins.
var breaks = regexp.MustCompile(`<([A-Za-z]|/[A-Za-z]|!|\?|/>|/[^A-Za-z>])`)

// endTags are the model's expressions of end tags of elements whose text they end.
var endTags = func() map[string]*regexp.Regexp {
	all := map[string]*regexp.Regexp{"plaintext": regexp.MustCompile(`[^\x00-\x{10FFFF}]`)}
	for _, name := range ended {
		all[name] = regexp.MustCompile("(?i:</" + strings.ReplaceAll(strings.ReplaceAll(name, "s", "[sS]"), "k", "[kK]") + `)[\t\n\f\r />]`)
	}
	return all
}()

// upTo gives the byte where an expression is first found, from a byte on, or the bytes' length. It sees each byte as one character.
func upTo(b []byte, from int, find *regexp.Regexp) int {
	rest := bytes.Clone(b[from:])
	for i, c := range rest {
		if c >= 128 {
			rest[i] = '~'
		}
	}
	if found := find.FindIndex(rest); found != nil {
		return from + found[0]
	}
	return len(b)
}

// modelNext is Next by the model. Texts are read of a copy of their bytes alone.
func modelNext(b []byte, at int, in string) (api.Token, bool) {
	if at < 0 || at >= len(b) {
		return api.Token{}, false
	}
	if find := endTags[in]; find != nil {
		to := upTo(b, at, find)
		alone := bytes.Clone(b[at:to])
		switch {
		case to == at:
		case in == "title" || in == "textarea":
			return text(ref.Text(alone, 0, len(alone), false), at, to), true
		default:
			return text(char.All(alone, 0, len(alone)), at, to), true
		}
	}
	if upTo(b, at, breaks) == at {
		if t, ok := tag.Read(b, at); ok {
			return t, true
		}
		_, to, _ := mark.Read(b, at)
		return nothing(at, to), true
	}
	to := upTo(b, at+1, breaks)
	alone := bytes.Clone(b[at:to])
	return text(ref.Text(alone, 0, len(alone), false), at, to), true
}

// lastElement gives the element in which a token stands that follows others.
func lastElement(ahead []api.Token) string {
	for i := len(ahead) - 1; i >= 0; i-- {
		switch ahead[i].Kind {
		case api.Start:
			return ahead[i].Name
		case api.End:
			return ""
		}
	}
	return ""
}

// modelAll is All by the model.
func modelAll(b []byte) []api.Token {
	var l []api.Token
	at := 0
	for {
		t, ok := modelNext(b, at, lastElement(l))
		if !ok {
			return l
		}
		l = append(l, t)
		at = t.To
	}
}

// nextByModel checks Next by the model, at each place and beyond, in some elements.
func nextByModel(t *testing.T, s string, names ...string) {
	t.Helper()
	b := []byte(s)
	for _, in := range names {
		for at := -1; at <= len(b)+1; at++ {
			got, ok := token.Next(b, at, in)
			want, has := modelNext(b, at, in)
			if ok != has || !same(got, want) {
				t.Fatalf("Next(%q, %d, %q): %+v %v, not %+v %v", s, at, in, got, ok, want, has)
			}
		}
	}
}

// allByModel checks All by the model.
func allByModel(t *testing.T, s string) {
	t.Helper()
	got, want := token.All([]byte(s)), modelAll([]byte(s))
	bad := len(got) != len(want)
	for i := 0; !bad && i < len(got); i++ {
		bad = !same(got[i], want[i])
	}
	if bad {
		t.Fatalf("All(%q): %+v, not %+v", s, got, want)
	}
}

// each calls do with every text up to a length, made of some pieces.
func each(pieces []string, longest int, do func(s string)) {
	do("")
	if longest == 0 {
		return
	}
	for _, piece := range pieces {
		each(pieces, longest-1, func(s string) { do(piece + s) })
	}
}

// P10.2: the chapter's example.
func TestExample(t *testing.T) {
	all(t, "a<b>c</b>", text("a", 0, 1), start("b", 1, 4), text("c", 4, 5), end("b", 5, 9))
}

// P10.1, K1, K3: where there is no byte, in each way: the zero token and false.
func TestNoByte(t *testing.T) {
	none := func(b []byte, at int, in string) {
		t.Helper()
		got, ok := token.Next(b, at, in)
		if ok || !reflect.DeepEqual(got, api.Token{}) {
			t.Errorf("Next(%q, %d, %q): %+v %v", b, at, in, got, ok)
		}
	}
	for _, in := range everyWay {
		for _, at := range []int{0, 1, -1, math.MaxInt, math.MinInt} {
			none(nil, at, in)
			none([]byte{}, at, in)
		}
		for _, s := range []string{"a", "<b>", "<b", "</b>", "<!-- -->", "</" + in + ">", "a</" + in + ">", "&amp;", "\x00", "\xFF"} {
			for _, at := range []int{-1, -2, -len(s), len(s), len(s) + 1, len(s) + 2, math.MaxInt, math.MaxInt - 1, math.MinInt, math.MinInt + 1} {
				none([]byte(s), at, in)
			}
			// What lies behind b's end, in its memory alone, is none of b's.
			none([]byte(s)[:0], 0, in)
			none([]byte(s)[:len(s)-1], len(s)-1, in)
		}
	}
}

// P10.1: of the way Tags: a start tag.
func TestStartTag(t *testing.T) {
	nextInTags(t, "<b>", 0, start("b", 0, 3))
	nextInTags(t, "<b>c", 0, start("b", 0, 3))
	nextInTags(t, "x<B >c", 1, start("b", 1, 5))
	nextInTags(t, "<br/>", 0, start("br", 0, 5))
	nextInTags(t, "<<b>", 1, start("b", 1, 4))
	nextInTags(t, "<title>x", 0, start("title", 0, 7))
	nextInTags(t, "<plaintext>x", 0, start("plaintext", 0, 11))
	nextInTags(t, "<A HREF=x a>", 0, start("a", 0, 12, api.Attr{Name: "href", Value: "x"}, api.Attr{Name: "a"}))
	nextInTags(t, "<p a=1 a=2>", 0, start("p", 0, 11, api.Attr{Name: "a", Value: "1"}))
	nextInTags(t, "<p a=1 B='<c>' A=2 b=3>d", 0, start("p", 0, 23, api.Attr{Name: "a", Value: "1"}, api.Attr{Name: "b", Value: "<c>"}))
	nextInTags(t, "<p a=\"&lt;&copy=1\">", 0, start("p", 0, 19, api.Attr{Name: "a", Value: "<&copy=1"}))
}

// P10.1: of the way Tags: an end tag.
func TestEndTag(t *testing.T) {
	nextInTags(t, "</b>", 0, end("b", 0, 4))
	nextInTags(t, "x</B a=1>c", 1, end("b", 1, 9))
	nextInTags(t, "</title>x", 0, end("title", 0, 8))
	nextInTags(t, "</plaintext/>x", 0, end("plaintext", 0, 13))
}

// P10.1, K3: of the way Tags: a tag that is cut.
func TestCutTag(t *testing.T) {
	for _, s := range []string{"<b", "</b", "<b ", "<b a", "<b a=", "<b a=1", "<b a='>", "<b a=\"1>x</b>", "</b a='>", "<b/", "<style", "</style ", "<b<c", "<b a=1 a=2 "} {
		nextInTags(t, s, 0, nothing(0, len(s)))
		nextInTags(t, "x>"+s, 2, nothing(2, len(s)+2))
	}
}

// marks are one or more of each kind of layer 8, each with an end of its own.
var marks = []string{
	"<!---->", "<!-->", "<!--->", "<!--a-->", "<!--<b>--!>", "<!-- > -- -->", "<!--\x00\xFF-->",
	"<!doctype>", "<!DOCTYPE html>", "<!dOcTyPe\n'>", "</>",
	"<!>", "<!a>", "<!-a>", "<![CDATA[a]]>", "<!doctyp>", "<?>", "<?xml a='>", "</ b>", "</1>", "</\x00>", "</\xFF>", "</\r>", "</!-- -->", "</<b>", "</?>", "<!\r>",
}

// openMarks are marks that go on up to the end of the bytes.
var openMarks = []string{"<!--", "<!--a", "<!-- --", "<!--a>", "<!doctype", "<!DocType a", "<!", "<!a", "<?", "<?a", "</ ", "</1", "</\x00", "</\xC3", "</<b"}

// P10.1, K3: of the way Tags: each kind of mark.
func TestMark(t *testing.T) {
	for _, s := range marks {
		to := strings.Index(s, ">") + 1
		if strings.HasPrefix(s, "<!--") {
			to = len(s)
		}
		nextInTags(t, s, 0, nothing(0, to))
		nextInTags(t, "a>"+s+"b>-->", 2, nothing(2, to+2))
	}
	for _, s := range openMarks {
		nextInTags(t, s, 0, nothing(0, len(s)))
		nextInTags(t, "a>"+s, 2, nothing(2, len(s)+2))
	}
}

// P10.1: of the way Tags: a text goes on up to a tag, a mark, or the end of the bytes.
func TestText(t *testing.T) {
	behind := []string{"", "<b>", "<B a=1>c", "</b>", "</B >c", "<b", "</b", "<b a='>", "</b ", "<title>", "</title>", "</plaintext>"}
	behind = append(append(behind, marks...), openMarks...)
	for _, s := range []string{"a", "ab", " ", "\n", ">", "-->", "a > b", "/b>", "!--a-->", "\u20AC", "< ", "<", "<<", "<1", "a<=b", "a< b> c", "</", "a</"} {
		for _, more := range behind {
			if strings.HasSuffix(s, "</") && more != "" {
				// With a byte behind it, it begins a mark.
				continue
			}
			nextInTags(t, s+more, 0, text(s, 0, len(s)))
			nextInTags(t, "<b>"+s+more, 3, text(s, 3, len(s)+3))
		}
	}
	long := strings.Repeat("abc < & ", 1000)
	nextInTags(t, long+"<b>", 0, text(long, 0, len(long)))
}

// P10.1: a < that begins neither a tag nor a mark is of a text, which goes on behind it, whichever byte follows.
func TestLessThan(t *testing.T) {
	for c := range 256 {
		letter := c >= 'a' && c <= 'z' || c >= 'A' && c <= 'Z'
		if letter || c == '/' || c == '!' || c == '?' || c == '<' || c == '&' || c == 0 || c == '\r' || c >= 128 {
			continue
		}
		s := "<" + oneByte(c) + "x"
		nextInTags(t, s, 0, text(s, 0, 3))
		nextInTags(t, s+"<b>", 0, text(s, 0, 3))
		nextInTags(t, "1 "+s+"</b>", 0, text("1 "+s, 0, 5))
		nextInTags(t, s+s+s, 0, text(s+s+s, 0, 9))
	}
	nextInTags(t, "<", 0, text("<", 0, 1))
	nextInTags(t, "1 < 2 <", 0, text("1 < 2 <", 0, 7))
	nextInTags(t, "</", 0, text("</", 0, 2))
	nextInTags(t, "a</", 0, text("a</", 0, 3))
	nextInTags(t, "<<b>", 0, text("<", 0, 1))
	nextInTags(t, "<<<", 0, text("<<<", 0, 3))
	nextInTags(t, "<</", 0, text("<</", 0, 3))
	nextInTags(t, "<\x00<\xFF<\rx<&lt;", 0, text("<\uFFFD<\uFFFD<\nx<<", 0, 12))
	nextInTags(t, "<\u00E9>", 0, text("<\u00E9>", 0, 4))
}

// P10.1: at a byte within a tag, a mark, a reference and a character: a text begins there.
func TestWithin(t *testing.T) {
	nextInTags(t, "<b c=1>d", 1, text("b c=1>d", 1, 8))
	nextInTags(t, "<b c='<i>'>d", 2, text(" c='", 2, 6))
	nextInTags(t, "<b c='<i>'>d", 6, start("i", 6, 9))
	nextInTags(t, "<b c='&lt;'>d", 3, text("c='<'>d", 3, 13))
	nextInTags(t, "</b>c", 1, text("/b>c", 1, 5))
	nextInTags(t, "</b>c", 2, text("b>c", 2, 5))
	nextInTags(t, "<!--a-->b", 1, text("!--a-->b", 1, 9))
	nextInTags(t, "<!--<b>-->", 2, text("--", 2, 4))
	nextInTags(t, "<!--<b>-->", 4, start("b", 4, 7))
	nextInTags(t, "</>a", 1, text("/>a", 1, 4))
	nextInTags(t, "<!doctype a>", 3, text("octype a>", 3, 12))
	nextInTags(t, "<?a>", 1, text("?a>", 1, 4))
	nextInTags(t, "a&lt;b", 2, text("lt;b", 2, 6))
	nextInTags(t, "&amp;lt;", 0, text("&lt;", 0, 8))
	nextInTags(t, "&amp;lt;", 1, text("amp;lt;", 1, 8))
	nextInTags(t, "&#65;", 2, text("65;", 2, 5))
	nextInTags(t, "\u20ACa", 1, text("\uFFFD\uFFFDa", 1, 4))
	nextInTags(t, "\r\na", 1, text("\na", 1, 3))
}

// P10.1: of the way Tags a text's Text is layer 5's, not as an attribute's, of its own bytes alone.
func TestTextOfTags(t *testing.T) {
	for _, x := range []struct{ s, want string }{
		{"a&lt;b&gt;", "a<b>"}, {"&lt;b>", "<b>"}, {"&#60;b&#x3e;", "<b>"}, {"&copy=1 &copyx &notit", "\u00A9=1 \u00A9x \u00ACit"}, {"&amp", "&"}, {"&", "&"},
		{"a & b", "a & b"}, {"&nosuch;", "&nosuch;"}, {"&#;", "&#;"}, {"&#0;&#13;", "\uFFFD\r"}, {"&#128;", "\u20AC"}, {"&#65", "A"}, {"&#x41", "A"}, {"&#x", "&#x"},
		{"a\x00b", "a\uFFFDb"}, {"\r\n\r\r\n\n", "\n\n\n\n"}, {"\x80\xFF\xC3\xA9\xE2\x82", "\uFFFD\uFFFD\u00E9\uFFFD\uFFFD"}, {"\xED\xA0\x80", "\uFFFD\uFFFD\uFFFD"}, {"\r", "\n"},
		{"&l\x00t;", "&l\uFFFDt;"}, {"\uFFFD\U0001F600", "\uFFFD\U0001F600"}, {"&not", "\u00AC"}, {"&notin;", "\u2209"}, {"&apos", "&apos"}, {"&apos;", "'"},
	} {
		for _, more := range []string{"", "<b>", "</b>", "<b", "<!---->", "</>", "<!doctype>", "<?>", "</ >", "<b>in;", "<b>;"} {
			nextInTags(t, x.s+more, 0, text(x.want, 0, len(x.s)))
			nextInTags(t, "<i>"+x.s+more, 3, text(x.want, 3, len(x.s)+3))
		}
	}
}

// P10.1: of Refs references are read, tags and marks aren't; up to the element's end tag, or the end of the bytes.
func TestRefs(t *testing.T) {
	for _, name := range refs {
		for _, x := range []struct{ s, want string }{
			{"a", "a"}, {"a<b>c</b>d", "a<b>c</b>d"}, {"<b>", "<b>"}, {"</b>", "</b>"}, {"<!--a-->&amp;<?b></>", "<!--a-->&<?b></>"}, {"&lt;b&gt;", "<b>"},
			{"<" + name + ">", "<" + name + ">"}, {"&copy=1&copyx", "\u00A9=1\u00A9x"}, {"a&am", "a&am"}, {"&amp", "&"}, {"&#65", "A"}, {"&", "&"}, {"<!--", "<!--"},
			{"\x00\r\n\r\xFF", "\uFFFD\n\n\uFFFD"}, {"</" + name + "x>", "</" + name + "x>"}, {"</", "</"}, {"&lt;/" + name + ">", "</" + name + ">"}, {"<b a='", "<b a='"},
			{"</" + name, "</" + name}, {"</style>", "</style>"}, {"</plaintext>", "</plaintext>"}, {"\xE2\x82", "\uFFFD\uFFFD"},
		} {
			next(t, x.s, 0, name, text(x.want, 0, len(x.s)))
			for _, spelt := range spellings(name) {
				for _, close := range []string{">", " >", "\t>", "\n>", "\f>", "\r>", "/>", " a='>'>", ">x</" + name + ">"} {
					next(t, x.s+"</"+spelt+close, 0, name, text(x.want, 0, len(x.s)))
					next(t, "?<b>"+x.s+"</"+spelt+close, 4, name, text(x.want, 4, len(x.s)+4))
				}
			}
		}
	}
}

// P10.1: of Bytes neither references nor tags nor marks are read; the Text is layer 2's All.
func TestBytes(t *testing.T) {
	for _, name := range byted {
		for _, x := range []struct{ s, want string }{
			{"a", "a"}, {"a<b>c</b>d", "a<b>c</b>d"}, {"<!--a-->&amp;<?b></>", "<!--a-->&amp;<?b></>"}, {"&lt;b&gt;&#65;&copy=1", "&lt;b&gt;&#65;&copy=1"}, {"<b>", "<b>"},
			{"<" + name + ">", "<" + name + ">"}, {"\x00\r\n\r\xFF", "\uFFFD\n\n\uFFFD"}, {"</" + name + "x>", "</" + name + "x>"}, {"<b a='", "<b a='"}, {"\xE2\x82", "\uFFFD\uFFFD"},
			{"</title>", "</title>"}, {"</textarea>", "</textarea>"}, {"</plaintext>", "</plaintext>"}, {"&lt;/" + name + ">", "&lt;/" + name + ">"}, {"</" + name, "</" + name},
		} {
			next(t, x.s, 0, name, text(x.want, 0, len(x.s)))
			for _, spelt := range spellings(name) {
				for _, close := range []string{">", " >", "\t>", "\n>", "\f>", "\r>", "/>", " a='>'>", ">x</" + name + ">"} {
					next(t, x.s+"</"+spelt+close, 0, name, text(x.want, 0, len(x.s)))
					next(t, "?<b>"+x.s+"</"+spelt+close, 4, name, text(x.want, 4, len(x.s)+4))
				}
			}
		}
	}
}

// P10.1: of Plain all up to the end of the bytes is one text, its own end tag notwithstanding; the Text is layer 2's All.
func TestPlain(t *testing.T) {
	for _, x := range []struct{ s, want string }{
		{"a", "a"}, {"a</plaintext>b", "a</plaintext>b"}, {"</plaintext>", "</plaintext>"}, {"</PLAINTEXT >", "</PLAINTEXT >"}, {"</plaintext", "</plaintext"},
		{"<b>&lt;</b><!---->", "<b>&lt;</b><!---->"}, {"<!--", "<!--"}, {"<b", "<b"}, {"\x00\r\n\r\xFF", "\uFFFD\n\n\uFFFD"}, {"</style></title>", "</style></title>"}, {"<", "<"},
	} {
		next(t, x.s, 0, "plaintext", text(x.want, 0, len(x.s)))
		next(t, "<b>"+x.s, 3, "plaintext", text(x.want, 3, len(x.s)+3))
	}
	next(t, "a</plaintext>", 1, "plaintext", text("</plaintext>", 1, 13))
	next(t, "a</plaintext>", 5, "plaintext", text("aintext>", 5, 13))
}

// P10.1: right at the element's end tag that end tag is told; within it, a text begins.
func TestAtEndTag(t *testing.T) {
	for _, name := range ended {
		for _, spelt := range spellings(name) {
			for _, close := range []string{">", " >", "\t>", "\n>", "\f>", "\r>", "\r\n>", "/>", " a='>' b>", "/ c=1/>"} {
				s := "</" + spelt + close
				next(t, s, 0, name, end(name, 0, len(s)))
				next(t, "a<b>"+s+"c</"+name+">", 4, name, end(name, 4, len(s)+4))
			}
			s := "</" + spelt + ">&amp;"
			want := "/" + spelt + ">&"
			if name != "title" && name != "textarea" {
				want += "amp;"
			}
			next(t, s, 1, name, text(want, 1, len(s)))
		}
	}
}

// P10.1: right at an end tag of the element that is cut; a front that no such byte follows is a text.
func TestAtCutEndTag(t *testing.T) {
	for _, name := range ended {
		for _, spelt := range spellings(name) {
			for _, behind := range []string{" ", "\t", "\n", "\f", "\r", "/", " x", " a='>", "/ ", " a=\"></" + name + ">"} {
				s := "</" + spelt + behind
				next(t, s, 0, name, nothing(0, len(s)))
				next(t, "a"+s, 1, name, nothing(1, len(s)+1))
				next(t, "a"+s, 0, name, text("a", 0, 1))
			}
			s := "</" + spelt
			next(t, s, 0, name, text(s, 0, len(s)))
		}
	}
}

// P10.1: the end tag of another element is of the text, of the ways Refs and Bytes.
func TestAtOtherEndTag(t *testing.T) {
	for _, name := range ended {
		for _, other := range append([]string{"b", "p", name + "x", name[1:]}, raws...) {
			if other == name {
				continue
			}
			s := "</" + other + ">"
			next(t, s, 0, name, text(s, 0, len(s)))
			next(t, s+"</"+name+">", 0, name, text(s, 0, len(s)))
			nextInTags(t, s, 0, end(other, 0, len(s)))
		}
	}
}

// P10.2, K1: of nil and of empty bytes there is none.
func TestAllOfNothing(t *testing.T) {
	for _, b := range [][]byte{nil, {}, []byte("a")[:0]} {
		if got := token.All(b); len(got) != 0 {
			t.Errorf("%+v", got)
		}
	}
}

// P10.2: behind a start tag of each of the nine names its text is read in its way; of another one as of none.
func TestAllBehindStartTags(t *testing.T) {
	for _, name := range raws {
		n := len(name) + 2
		s := "<" + name + ">x<b>&amp;</i><!-- --></" + name + ">"
		inner := "x<b>&amp;</i><!-- -->"
		to := n + len(inner)
		switch name {
		case "title", "textarea":
			all(t, s, start(name, 0, n), text("x<b>&</i><!-- -->", n, to), end(name, to, len(s)))
		case "plaintext":
			all(t, s, start(name, 0, n), text(s[n:], n, len(s)))
		default:
			all(t, s, start(name, 0, n), text(inner, n, to), end(name, to, len(s)))
		}
		great := "<" + strings.ToUpper(name) + " a=1>&lt;"
		want := "&lt;"
		if name == "title" || name == "textarea" {
			want = "<"
		}
		all(t, great, start(name, 0, n+4, api.Attr{Name: "a", Value: "1"}), text(want, n+4, n+8))
	}
	for _, name := range []string{"b", "p", "div", "pre", "noscript", "titles", "listing"} {
		n := len(name) + 2
		all(t, "<"+name+">x<i>&amp;<!-- -->", start(name, 0, n), text("x", n, n+1), start("i", n+1, n+4), text("&", n+4, n+9), nothing(n+9, n+17))
	}
}

// P10.2: behind an end tag it is in no element; a start tag behind that one tells the next.
func TestAllBehindEndTags(t *testing.T) {
	all(t, "<style>&lt;</style>&lt;<b>c", start("style", 0, 7), text("&lt;", 7, 11), end("style", 11, 19), text("<", 19, 23), start("b", 23, 26), text("c", 26, 27))
	all(t, "<style></style></b><i>", start("style", 0, 7), end("style", 7, 15), end("b", 15, 19), start("i", 19, 22))
	all(t, "<style></style><title>&lt;<b></title>", start("style", 0, 7), end("style", 7, 15), start("title", 15, 22), text("<<b>", 22, 29), end("title", 29, 37))
	all(t, "</style>&lt;<b>", end("style", 0, 8), text("<", 8, 12), start("b", 12, 15))
	all(t, "<b><xmp><i></b></xmp><i>", start("b", 0, 3), start("xmp", 3, 8), text("<i></b>", 8, 15), end("xmp", 15, 21), start("i", 21, 24))
	all(t, "<xmp></xmp></xmp>", start("xmp", 0, 5), end("xmp", 5, 11), end("xmp", 11, 17))
	all(t, "<title></title><plaintext></title><b>", start("title", 0, 7), end("title", 7, 15), start("plaintext", 15, 26), text("</title><b>", 26, 37))
}

// P10.2: a text, a mark and a tag that is cut change no element; those of the Kind 0 are told, too.
func TestAllAcrossOtherTokens(t *testing.T) {
	all(t, "<b>x<!-- -->y</>", start("b", 0, 3), text("x", 3, 4), nothing(4, 12), text("y", 12, 13), nothing(13, 16))
	all(t, "<!doctype><title><!-- --></title ><?x>", nothing(0, 10), start("title", 10, 17), text("<!-- -->", 17, 25), end("title", 25, 34), nothing(34, 38))
	for _, name := range ended {
		n := len(name) + 2
		s := "<" + name + ">x</" + name + " a='></" + name + ">"
		all(t, s, start(name, 0, n), text("x", n, n+1), nothing(n+1, len(s)))
		s = "<" + name + "></" + name + "/"
		all(t, s, start(name, 0, n), nothing(n, len(s)))
		s = "<" + name + "></" + name
		all(t, s, start(name, 0, n), text("</"+name, n, len(s)))
	}
	all(t, "<style>", start("style", 0, 7))
	all(t, "<!--a--><!--b-->", nothing(0, 8), nothing(8, 16))
	all(t, "a&lt;b<c", text("a<b", 0, 6), nothing(6, 8))
	all(t, "</>a</ b>c<?d>e", nothing(0, 3), text("a", 3, 4), nothing(4, 9), text("c", 9, 10), nothing(10, 14), text("e", 14, 15))
}

// P10.2: a start tag that is cut begins no element's text: it goes up to the end of the bytes.
func TestAllOfCutStartTags(t *testing.T) {
	for _, name := range raws {
		for _, s := range []string{"<" + name, "<" + name + " ", "<" + name + " a='>x</" + name + ">", "<" + name + "/"} {
			all(t, s, nothing(0, len(s)))
			all(t, "&lt;"+s, text("<", 0, 4), nothing(4, len(s)+4))
		}
	}
}

// samples are texts of all sorts.
var samples = []string{
	"a<b>c</b>", "<p a=1 a=2>\r\n\x00</p", "1 < 2 <", "<title>a&amp;<b></TITLE>c&lt", "<style>a&amp;<b></style >c", "<style></style>", "<style>a</style x", "<plaintext>a</plaintext>",
	"</>a</ b>c<?d>e", "<!--a--!>b<!doctype c><!d", "<script><!--<script></script>--></script>", "<textarea>\r\n&#65</textarea\r><xmp>\xE2\x82</xmp/>", "<iframe/>a</iframe>b",
	"<noframes a='</noframes>'></noframes><noembed></NoEmbed\f>&copy;", "<b<c></b<c>", "a\xC3<\xA9b>&\x00;&amp;lt;", "<titlE>&</title>&<", "<b></style><style></b>", "<a href='&lt;b&gt;'>&amp</a>",
}

// P10.2: tokens stand one behind the other over all bytes, none empty, and each is the Next in its element.
func TestAllIsNextByNext(t *testing.T) {
	check := func(s string) {
		t.Helper()
		b := []byte(s)
		l := token.All(b)
		at := 0
		for i, x := range l {
			if x.From != at || x.To <= at {
				t.Fatalf("%q: %d: %+v behind %d", s, i, x, at)
			}
			if want, ok := token.Next(b, at, lastElement(l[:i])); !ok || !same(x, want) {
				t.Fatalf("%q: %d: %+v, not %+v", s, i, x, want)
			}
			at = x.To
		}
		if at != len(b) {
			t.Fatalf("%q: up to %d", s, at)
		}
	}
	for _, s := range samples {
		for n := range len(s) + 1 {
			check(s[:n])
			check(s[n:])
		}
		for _, other := range samples {
			check(s + other)
		}
	}
}

// P10.1, P10.2: at all short texts of what tokens are made of, by the model.
func TestModelOfPieces(t *testing.T) {
	each([]string{"<", "/", "!", "?", ">", "-", "a", "'", " ", "&lt"}, 5, func(s string) {
		nextByModel(t, s, "")
		allByModel(t, s)
	})
	each([]string{"<title>", "</title>", "</TITLE ", "<xmp>", "</xmp", ">", "<!--", "-->", "<b>", "</b>", "&amp;", "x\r\n"}, 4, func(s string) {
		nextByModel(t, s, "", "title", "xmp", "plaintext")
		allByModel(t, s)
	})
	for _, name := range raws {
		each([]string{"<" + name + ">", "</" + mixed(name) + "/", "</" + name + ">", "<" + name, "<p>", "</", "&lt;", "'"}, 4, func(s string) {
			nextByModel(t, s, name, "p")
			allByModel(t, s)
		})
	}
}

// P10.1, P10.2: each byte put in, or changed, at each place, by the model.
func TestModelOfEachByte(t *testing.T) {
	for _, s := range samples[:13] {
		for at := range len(s) + 1 {
			for c := range 256 {
				put := s[:at] + oneByte(c) + s[at:]
				allByModel(t, put)
				if at < len(s) {
					allByModel(t, s[:at]+oneByte(c)+s[at+1:])
				}
				if c%16 == at%16 || c == '<' {
					nextByModel(t, put, "", "title", "style", "plaintext")
				}
			}
		}
	}
}

// K5: what was handed in stays as it was, its spare capacity too; what was answered doesn't hang on it later.
func TestNeitherChangedNorKept(t *testing.T) {
	for _, s := range samples {
		for _, in := range []string{"", "p", "title", "style", "plaintext"} {
			memory := []byte(s + "#</title></style>")
			b := memory[:len(s)]
			x, _ := token.Next(b, 0, in)
			l := token.All(b)
			if string(memory) != s+"#</title></style>" {
				t.Errorf("%q became %q", s, memory)
			}
			told := fmt.Sprintf("%+v%+v", x, l)
			for i := range memory {
				memory[i] = '~'
			}
			if again := fmt.Sprintf("%+v%+v", x, l); again != told {
				t.Errorf("%q: %s became %s", s, told, again)
			}
		}
	}
}

// K5: two answers share no memory, nor do two lists of one answer.
func TestAnswersAreApart(t *testing.T) {
	b := []byte("<a b=1 c=2><d e=3 f=4>")
	one, two := token.All(b), token.All(b)
	one[0].Attrs[0].Name = "x"
	one[1] = api.Token{}
	_ = append(one[0].Attrs[:1], api.Attr{Name: "y"})
	want := []api.Token{
		start("a", 0, 11, api.Attr{Name: "b", Value: "1"}, api.Attr{Name: "c", Value: "2"}),
		start("d", 11, 22, api.Attr{Name: "e", Value: "3"}, api.Attr{Name: "f", Value: "4"}),
	}
	if !reflect.DeepEqual(two, want) {
		t.Errorf("%+v", two)
	}
	_ = append(two[0].Attrs, api.Attr{Name: "z"})
	if !reflect.DeepEqual(two, want) {
		t.Errorf("%+v", two)
	}
}

// K6: the same again, however many ask at the same time.
func TestSameAgain(t *testing.T) {
	var wait sync.WaitGroup
	for range 8 {
		wait.Go(func() {
			for _, s := range samples {
				if got := token.All([]byte(s)); fmt.Sprint(got) != fmt.Sprint(modelAll([]byte(s))) {
					t.Errorf("%q: %+v", s, got)
				}
			}
		})
	}
	wait.Wait()
}

// P1, K7: long bytes of each sort are gone through; where each token cost all bytes, this would not end in time.
func TestLong(t *testing.T) {
	const many = 1 << 17
	for _, piece := range []string{"<", "<<", "</", "<!", "<!--", "<?", "</>", "<b>", "<b a=1>", "</b>", "x", "&", "&lt;", "<title>", "</title>", "<title></title>", "<style>x</style ", "<style></style>", "\r", "\x00", "\xFF", "< ", "<b a='"} {
		b := []byte(strings.Repeat(piece, many))
		at := 0
		for _, x := range token.All(b) {
			if x.From != at || x.To <= at {
				t.Fatalf("%q: %+v behind %d", piece, x, at)
			}
			at = x.To
		}
		if at != len(b) {
			t.Errorf("%q: up to %d", piece, at)
		}
	}
}
