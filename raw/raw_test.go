package raw_test

import (
	"bytes"
	"math"
	"regexp"
	"strings"
	"sync"
	"testing"

	"decanter/raw"
)

// ways are the nine names whose way isn't Tags (0).
var ways = map[string]int{
	"textarea": 1, "title": 1,
	"iframe": 2, "noembed": 2, "noframes": 2, "script": 2, "style": 2, "xmp": 2,
	"plaintext": 3,
}

// ended are the names of elements whose text ends with an end tag.
var ended = []string{"textarea", "title", "iframe", "noembed", "noframes", "script", "style", "xmp"}

// others are names of the way Tags.
var others = []string{
	"", "a", "b", "p", "div", "noscript", "textareas", "head", "body", "html", "pre", "listing", "select", "option", "svg", "math", "template", "frame",
	"frameset", "embed", "object", "text", "area", "plain", "xm", "mp", "strike", "input", "STYLE", "Title", "PLAINTEXT", "iFrame", " style", "style ",
	"/style", "</style", "style>", "style\x00", "\x00", "<", ">", "\x80", "\xFF", "\u017Ftyle", "xmp\u00E9", "\uFF58mp",
}

// closers are the bytes that end an end tag's name.
const closers = "\t\n\f\r />"

// ends checks where the text of an element ends.
func ends(t *testing.T, s string, at int, name string, end int) {
	t.Helper()
	if got := raw.End([]byte(s), at, name); got != end {
		t.Errorf("End(%q, %d, %q): %d, not %d", s, at, name, got, end)
	}
}

// none checks that no end tag of an element ends its text, whatever stands ahead of it, and that one behind it does.
func none(t *testing.T, s, name string) {
	t.Helper()
	for _, ahead := range []string{"", "x", "<", "</", "<!--", "\xE2"} {
		ends(t, ahead+s, 0, name, len(ahead+s))
		ends(t, ahead+s, len(ahead), name, len(ahead+s))
		ends(t, ahead+s+"</"+name+">", 0, name, len(ahead+s))
	}
}

// mixed gives a name with every second letter a great one.
func mixed(name string) string {
	b := []byte(name)
	for at := 0; at < len(b); at += 2 {
		b[at] -= 32
	}
	return string(b)
}

// spellings gives a name with small, great and mixed letters.
func spellings(name string) []string {
	return []string{name, strings.ToUpper(name), mixed(name), strings.ToUpper(name[:1]) + name[1:], name[:len(name)-1] + strings.ToUpper(name[len(name)-1:])}
}

// oneByte gives a byte as a text.
func oneByte(c int) string { return string([]byte{byte(c)}) }

// endTags are the model's expressions of end tags, by names.
var endTags = func() map[string]*regexp.Regexp {
	all := map[string]*regexp.Regexp{}
	for _, name := range ended {
		letters := ""
		for _, c := range name {
			letters += "[" + string(c) + strings.ToUpper(string(c)) + "]"
		}
		all[name] = regexp.MustCompile("</" + letters + `[\t\n\f\r />]`)
	}
	return all
}()

// modelEnd is End by the model. Its expressions see each byte as one character, as the chapter asks.
func modelEnd(b []byte, at int, name string) int {
	switch ways[name] {
	case 0:
		return at
	case 3:
		return len(b)
	}
	plain := bytes.Clone(b[at:])
	for i, c := range plain {
		if c >= 128 {
			plain[i] = '~'
		}
	}
	if found := endTags[name].FindIndex(plain); found != nil {
		return at + found[0]
	}
	return len(b)
}

// byModel checks End by the model, at each byte and at the bytes' end.
func byModel(t *testing.T, s, name string) {
	t.Helper()
	b := []byte(s)
	for at := range len(b) + 1 {
		if got, want := raw.End(b, at, name), modelEnd(b, at, name); got != want {
			t.Fatalf("End(%q, %d, %q): %d, not %d", s, at, name, got, want)
		}
	}
}

// each calls do with every text up to a length, made of some pieces.
func each(pieces []string, longest int, do func(s string)) {
	do("")
	if longest == 0 {
		return
	}
	for _, piece := range pieces {
		each(pieces, longest-1, func(s string) { do(piece + s) })
	}
}

// Types: the ways have their numbers, which fit any kind of integer.
func TestWays(t *testing.T) {
	if got := [4]uint8{raw.Tags, raw.Refs, raw.Bytes, raw.Plain}; got != [4]uint8{0, 1, 2, 3} {
		t.Error(got)
	}
}

// P9.1: the chapter's example.
func TestExample(t *testing.T) {
	ends(t, "a</styles></STYLE ", 0, "style", 10)
}

// P9.1: the way of each of the nine names, and of others.
func TestKind(t *testing.T) {
	for name, way := range ways {
		if got := raw.Kind(name); got != way {
			t.Errorf("%q: %d, not %d", name, got, way)
		}
	}
	for _, name := range others {
		if got := raw.Kind(name); got != raw.Tags {
			t.Errorf("%q: %d", name, got)
		}
	}
}

// P9.1: a name with a great letter, with a byte missing, changed or put in at any place, is that of another element.
func TestKindOfNearNames(t *testing.T) {
	tags := func(name string) {
		t.Helper()
		if got := raw.Kind(name); got != raw.Tags {
			t.Errorf("%q: %d", name, got)
		}
	}
	for name := range ways {
		for _, great := range spellings(name)[1:] {
			tags(great)
		}
		tags(name + name)
		for n := range len(name) + 1 {
			for c := range 256 {
				tags(name[:n] + oneByte(c) + name[n:])
			}
		}
		for n := range len(name) {
			tags(name[:n])
			tags(name[n+1:])
			tags(name[:n] + name[n+1:])
			tags(name[:n] + strings.ToUpper(name[n:n+1]) + name[n+1:])
			for c := range 256 {
				if byte(c) != name[n] {
					tags(name[:n] + oneByte(c) + name[n+1:])
				}
			}
		}
	}
}

// P9.1, K1: of nil and of empty bytes, of each way.
func TestNoBytes(t *testing.T) {
	for _, name := range append([]string{"plaintext", "p", ""}, ended...) {
		if nothing, empty := raw.End(nil, 0, name), raw.End([]byte{}, 0, name); nothing != 0 || empty != 0 {
			t.Errorf("%q: %d %d", name, nothing, empty)
		}
	}
}

// P9.1: of the way Tags: the byte itself, whatever stands there.
func TestEndOfTags(t *testing.T) {
	for _, name := range others {
		for _, s := range []string{"abc", "</" + name + ">", "a</style></p><b>", "</plaintext>", "<<<", "\x00\xFF\x80"} {
			for at := range len(s) + 1 {
				ends(t, s, at, name, at)
			}
		}
	}
}

// P9.1: of the way Plain: up to the end of the bytes, an end tag of its own notwithstanding.
func TestEndOfPlain(t *testing.T) {
	for _, s := range []string{"", "a", "</plaintext>", "a</PLAINTEXT >b", "a</plaintext/></style></plaintext>", "<plaintext>", "\xFF</plaintext\n"} {
		for at := range len(s) + 1 {
			ends(t, s, at, "plaintext", len(s))
		}
	}
}

// P9.1: of the ways Refs and Bytes: at each byte ahead of the end tag where it begins; from its second byte on it is none.
func TestEndAtEachByte(t *testing.T) {
	for _, name := range ended {
		s := "abc</" + name + ">def"
		for at := range len(s) + 1 {
			if at <= 3 {
				ends(t, s, at, name, 3)
			} else {
				ends(t, s, at, name, len(s))
			}
		}
		both := s + s
		for at := range len(both) + 1 {
			switch {
			case at <= 3:
				ends(t, both, at, name, 3)
			case at <= len(s)+3:
				ends(t, both, at, name, len(s)+3)
			default:
				ends(t, both, at, name, len(both))
			}
		}
	}
}

// P9.1: letters great or small, and each byte behind the name: only some of them make it an end tag.
func TestByteBehindName(t *testing.T) {
	for _, name := range ended {
		for _, spelt := range spellings(name) {
			for c := range 256 {
				tag := "</" + spelt + oneByte(c)
				if strings.IndexByte(closers, byte(c)) < 0 {
					none(t, tag, name)
					none(t, tag+">", name)
					continue
				}
				ends(t, tag, 0, name, 0)
				ends(t, "a"+tag, 0, name, 1)
				ends(t, "ab"+tag+"c>", 1, name, 2)
				ends(t, "a"+tag, 2, name, len(tag)+1)
			}
		}
	}
}

// P9.1: each of a name's letters may be a great one, in each choice of them.
func TestEachChoiceOfGreatLetters(t *testing.T) {
	for _, name := range ended {
		for choice := range 1 << len(name) {
			letters := []byte(name)
			for at := range letters {
				if choice>>at&1 == 1 {
					letters[at] -= 32
				}
			}
			ends(t, "a</"+string(letters)+">", 0, name, 1)
		}
	}
}

// P9.1: a front of an end tag, with nothing behind it, is none.
func TestFronts(t *testing.T) {
	for _, name := range ended {
		for _, spelt := range spellings(name) {
			tag := "</" + spelt
			for n := range len(tag) + 1 {
				ends(t, tag[:n], 0, name, n)
				ends(t, "a"+tag[:n], 0, name, n+1)
				ends(t, "a"+tag[:n], 1, name, n+1)
			}
			for n := range len(tag) {
				none(t, tag[:n]+">", name)
				none(t, tag[:n]+" ", name)
			}
		}
	}
}

// P9.1: what is nearly an end tag is none.
func TestNearlyEndTags(t *testing.T) {
	for _, name := range ended {
		for _, gap := range []string{" ", "\t", "\n", "\f", "\r", "\x00", "/", "-"} {
			none(t, "</"+gap+name+">", name)
			if gap != "/" {
				none(t, "<"+gap+"/"+name+">", name)
			}
		}
		for _, s := range []string{
			"<" + name + ">", "<" + name + "/>", " /" + name + ">", " " + name + ">", "<\\" + name + ">", "&lt;/" + name + ">", "\uFF1C/" + name + ">",
			"<!" + name + ">", "<?" + name + ">", "</" + name + name + ">", "</" + name + "-x>", "</" + name + "\u00A0>", "</" + name + "\u2028>",
			"</" + name + "\x0B>", "</" + name + "\x00>", "</" + name + "</", "<!--<" + name + ">-->",
		} {
			none(t, s, name)
		}
		for n := range len(name) {
			none(t, "</"+name[:n]+name[n+1:]+">", name)
			none(t, "</"+name[:n]+"-"+name[n:]+">", name)
			none(t, "</"+name[:n]+name[n:n+1]+name[n:]+">", name)
			for c := range 256 {
				if byte(c) != name[n] && byte(c) != name[n]-32 {
					none(t, "</"+name[:n]+oneByte(c)+name[n+1:]+">", name)
				}
			}
		}
	}
}

// P9.1: characters that fold into letters of a name are other bytes.
func TestFoldedLetters(t *testing.T) {
	none(t, "</\u017Ftyle>", "style")
	none(t, "</\u017Fcript>", "script")
	none(t, "</noframe\u017F>", "noframes")
	none(t, "</t\u0131tle>", "title")
	none(t, "</\u0130frame>", "iframe")
	none(t, "</\uFF58mp>", "xmp")
	none(t, "</noembed\u0301>", "noembed")
	none(t, "</textare\u00E4>", "textarea")
}

// P9.1: the end tag of another element is none, and what is nearly one ahead of the end tag changes nothing.
func TestOtherEndTags(t *testing.T) {
	for _, name := range ended {
		for _, other := range append([]string{"p", "plaintext", "noscript"}, ended...) {
			if other != name {
				none(t, "</"+other+">", name)
				ends(t, "a</"+other+">b</"+name+">", 0, name, 5+len(other))
				ends(t, "a</"+name+"></"+other+">", 0, name, 1)
			}
		}
	}
}

// P9.1: bytes that could begin an end tag right ahead of it, and bytes that are no UTF-8.
func TestAheadOfEndTag(t *testing.T) {
	for _, name := range ended {
		for _, ahead := range []string{
			"<", "<<", "</", "</</", "<</", "</<", "</" + name, "</" + name + "<", "<" + name + ">", "<!--", "<!-- -->", "<![CDATA[", "&lt;", "&", "\"", "'",
			"\u00E9", "\u20AC", "\U0001F600", "\x80", "\xBC", "\xFF", "\xC3", "\xE2\x82", "\xF0\x9F\x98", "\xED\xA0\x80", "\xFE\xFF", "\x00", "\r\n", "\uFF1C/",
		} {
			for _, behind := range []string{">", " ", "/", "\r", ">x", "></" + name + ">", " a='>'>", "\n\xFF", ">\x00", "/<", "><" + name + ">"} {
				ends(t, ahead+"</"+name+behind, 0, name, len(ahead))
				ends(t, ahead+"</"+strings.ToUpper(name)+behind, 0, name, len(ahead))
				ends(t, ahead+"</"+name+behind, len(ahead), name, len(ahead))
			}
			ends(t, ahead, 0, name, len(ahead))
		}
	}
}

// P9.1: no < at all, each byte alone, and each byte in place of the < and the / .
func TestNoEndTag(t *testing.T) {
	for _, name := range ended {
		ends(t, "abc > / d", 0, name, 9)
		ends(t, "abc > / d", 9, name, 9)
		for c := range 256 {
			none(t, oneByte(c), name)
			if c != '<' {
				none(t, oneByte(c)+"/"+name+">", name)
			}
			if c != '/' {
				none(t, "<"+oneByte(c)+name+">", name)
			}
		}
	}
}

// P9.1: bytes behind b's end, in its memory alone, are none of b's.
func TestStaysWithinLength(t *testing.T) {
	for _, name := range ended {
		s := "a</" + name + ">"
		for n := range len(s) {
			if got := raw.End([]byte(s)[:n], 0, name); got != n {
				t.Errorf("%q: %d", s[:n], got)
			}
		}
	}
}

// P9.1: at all short texts of what end tags are made of, by the model.
func TestModelOfPieces(t *testing.T) {
	for name := range ways {
		each([]string{"<", "/", name, mixed(name), ">", " ", "\r", "a", "\x80"}, 5, func(s string) { byModel(t, s, name) })
	}
	each([]string{"<", "</", "x", "M", "m", "P", "p", "/", "\xFF"}, 6, func(s string) { byModel(t, s, "xmp") })
}

// P9.1: each byte put in, or changed, at each place of texts with end tags, by the model.
func TestModelOfEachByte(t *testing.T) {
	for name := range ways {
		for _, s := range []string{"a</" + name + ">b", "</" + mixed(name) + " ", "</" + name + "x></" + name + "/", "</" + name} {
			for at := range len(s) {
				for c := range 256 {
					byModel(t, s[:at]+oneByte(c)+s[at:], name)
					byModel(t, s[:at]+oneByte(c)+s[at+1:], name)
				}
			}
		}
	}
}

// P1, K7: places that are no byte end no text, but such calls end, without a panic.
func TestNowhere(t *testing.T) {
	for _, name := range append([]string{"plaintext", "p", ""}, ended...) {
		for _, s := range []string{"", "a", "</" + name + ">"} {
			for _, at := range []int{-1, -2, -99, math.MinInt, len(s) + 1, len(s) + 99, math.MaxInt - 9, math.MaxInt} {
				raw.End([]byte(s), at, name)
				raw.End(nil, at, name)
			}
		}
	}
}

// P1, P9.1: long texts are gone through to their ends, whatever they are made of.
func TestLongTexts(t *testing.T) {
	const n = 1 << 20
	for _, name := range ended {
		for _, in := range []string{"a", "<", "</", "</" + name, "</" + name + "x>", "\xFF", "\u20AC"} {
			long := strings.Repeat(in, n/len(in))
			ends(t, long, 0, name, len(long))
			ends(t, long+"</"+name+">b", 0, name, len(long))
		}
	}
}

// K5: what is handed in stays as it was, ahead of its end and behind it.
func TestNotChanged(t *testing.T) {
	for name := range ways {
		for _, s := range []string{"A</" + name + ">B", "A</" + strings.ToUpper(name) + "\r\nB", "A</" + mixed(name), "A\x00\xFF"} {
			b := append(make([]byte, 0, 99), s...)
			spare := b[:cap(b)]
			copy(spare[len(s):], strings.Repeat("Z", 99))
			before := bytes.Clone(spare)
			for at := range len(b) + 1 {
				raw.End(b, at, name)
			}
			if !bytes.Equal(spare, before) {
				t.Errorf("%q changed: %q", s, spare)
			}
		}
	}
}

// K5, K6: nothing of what was handed in is kept: bytes that are changed are read anew, and the same ones as before, by many at once.
func TestSameAgain(t *testing.T) {
	b := []byte("a</xmp>b</xmp>")
	for range 2 {
		if end := raw.End(b, 0, "xmp"); end != 1 {
			t.Error(end)
		}
	}
	b[6] = 'x'
	if end := raw.End(b, 0, "xmp"); end != 8 {
		t.Error(end)
	}
	var group sync.WaitGroup
	for range 8 {
		group.Go(func() {
			for i := range 200 {
				name := ended[i%len(ended)]
				s := []byte("a</" + ended[i%3] + ">b</" + ended[i%5] + " ")
				if end, want := raw.End(s, i%3, name), modelEnd(s, i%3, name); end != want || raw.Kind(name) != ways[name] {
					t.Errorf("%q: %d, not %d", s, end, want)
				}
			}
		})
	}
	group.Wait()
}
