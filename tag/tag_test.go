package tag_test

import (
	"bytes"
	"math"
	"reflect"
	"regexp"
	"slices"
	"strconv"
	"strings"
	"sync"
	"testing"

	"decanter/api"
	"decanter/attr"
	"decanter/ref"
	"decanter/tag"
)

// nowhere are places that are no byte of short texts.
var nowhere = []int{-1, -2, -99, math.MinInt, 99, math.MaxInt - 2, math.MaxInt - 1, math.MaxInt}

// equal tells whether two tokens are the same; attributes that are nil and none are the same (K1).
func equal(a, b api.Token) bool {
	same := slices.Equal(a.Attrs, b.Attrs)
	a.Attrs, b.Attrs = nil, nil
	return same && reflect.DeepEqual(a, b)
}

// reads checks Read at a byte, and what Begins says there.
func reads(t *testing.T, s string, at int, want api.Token) {
	t.Helper()
	if got, ok := tag.Read([]byte(s), at); !ok || !equal(got, want) {
		t.Errorf("Read(%q, %d): %+v %v, not %+v", s, at, got, ok, want)
	}
	end := strings.HasPrefix(s[at:], "</")
	if begins, isEnd := tag.Begins([]byte(s), at); !begins || isEnd != end {
		t.Errorf("Begins(%q, %d): %v %v, not true %v", s, at, begins, isEnd, end)
	}
}

// starts checks that a text is one start tag with these attributes: names and values by turns.
func starts(t *testing.T, s, name string, words ...string) {
	t.Helper()
	var l []api.Attr
	for pair := range slices.Chunk(words, 2) {
		l = append(l, api.Attr{Name: pair[0], Value: pair[1]})
	}
	reads(t, s, 0, api.Token{Kind: api.Start, Name: name, Attrs: l, To: len(s)})
}

// ends checks that a text is one end tag.
func ends(t *testing.T, s, name string) {
	t.Helper()
	reads(t, s, 0, api.Token{Kind: api.End, Name: name, To: len(s)})
}

// none checks that no tag begins at a byte.
func none(t *testing.T, b []byte, at int) {
	t.Helper()
	if begins, end := tag.Begins(b, at); begins || end {
		t.Errorf("Begins(%q, %d): %v %v", b, at, begins, end)
	}
	if got, ok := tag.Read(b, at); ok || !equal(got, api.Token{}) {
		t.Errorf("Read(%q, %d): %+v %v", b, at, got, ok)
	}
}

// cutAnywhere checks that a text that is one tag is cut at each of its bytes, whatever it stands behind.
func cutAnywhere(t *testing.T, s string) {
	t.Helper()
	shortest := len("<a")
	if s[1] == '/' {
		shortest = len("</a")
	}
	for n := range len(s) {
		for _, ahead := range []string{"", "x", "<b>", "<b c='"} {
			all := ahead + s[:n]
			if n < shortest {
				none(t, []byte(all), len(ahead))
				continue
			}
			reads(t, all, len(ahead), api.Token{From: len(ahead), To: len(all)})
		}
	}
}

// The model reads a tag's bytes by expressions, one behind the other: all bytes that end something are single ones, and a byte 13 is a blank.
var (
	modelBegins = regexp.MustCompile(`^<(/?)[A-Za-z]`)
	modelTag    = regexp.MustCompile(`(?s)^[^\t\n\f\r />]+`)
	modelGap    = regexp.MustCompile(`^[\t\n\f\r /]*`)
	modelName   = regexp.MustCompile(`(?s)^.[^\t\n\f\r />=]*`)
	modelIs     = regexp.MustCompile(`^[\t\n\f\r ]*=[\t\n\f\r ]*`)
	modelDouble = regexp.MustCompile(`(?s)^"([^"]*)("|$)`)
	modelSingle = regexp.MustCompile(`(?s)^'([^']*)('|$)`)
	modelBare   = regexp.MustCompile(`(?s)^()[^\t\n\f\r >]*`)
)

// modelText is a name's characters, its letters small.
func modelText(b []byte) string {
	s := strings.NewReplacer("\r\n", "\n", "\r", "\n", "\x00", "\uFFFD").Replace(string(b))
	return strings.Map(func(c rune) rune {
		if 'A' <= c && c <= 'Z' {
			return c + 32
		}
		return c
	}, string([]rune(s)))
}

// modelValue gives a value's text, and the bytes behind it.
func modelValue(rest []byte) (string, []byte) {
	for _, quoted := range []*regexp.Regexp{modelDouble, modelSingle} {
		if m := quoted.FindSubmatch(rest); m != nil {
			return ref.Text(m[1], 0, len(m[1]), true), rest[len(m[0]):]
		}
	}
	m := modelBare.Find(rest)
	return ref.Text(m, 0, len(m), true), rest[len(m):]
}

// modelRead is Read by the chapter's words.
func modelRead(b []byte, at int) (api.Token, bool) {
	if at < 0 || at >= len(b) {
		return api.Token{}, false
	}
	m := modelBegins.FindSubmatch(b[at:])
	if m == nil {
		return api.Token{}, false
	}
	rest := b[at+1+len(m[1]):]
	name := modelTag.Find(rest)
	rest = rest[len(name):]
	var l []api.Attr
	for {
		rest = rest[len(modelGap.Find(rest)):]
		if len(rest) == 0 {
			return api.Token{From: at, To: len(b)}, true
		}
		if rest[0] == '>' {
			break
		}
		word := modelName.Find(rest)
		rest = rest[len(word):]
		value := ""
		if is := modelIs.Find(rest); is != nil {
			value, rest = modelValue(rest[len(is):])
		}
		l = attr.Add(l, api.Attr{Name: modelText(word), Value: value})
	}
	want := api.Token{Kind: api.Start, Name: modelText(name), Attrs: l, From: at, To: len(b) - len(rest) + 1}
	if len(m[1]) > 0 {
		want.Kind, want.Attrs = api.End, nil
	}
	return want, true
}

// models checks Begins and Read by the model.
func models(t *testing.T, b []byte, at int) {
	t.Helper()
	want, there := modelRead(b, at)
	if got, ok := tag.Read(b, at); ok != there || !equal(got, want) {
		t.Fatalf("Read(%q, %d): %+v %v, not %+v %v", b, at, got, ok, want, there)
	}
	end := there && b[at+1] == '/'
	if begins, isEnd := tag.Begins(b, at); begins != there || isEnd != end {
		t.Fatalf("Begins(%q, %d): %v %v, not %v %v", b, at, begins, isEnd, there, end)
	}
}

// each calls do with every text up to a length, made of some pieces.
func each(pieces []string, longest int, do func(s string)) {
	var grow func(s string, left int)
	grow = func(s string, left int) {
		do(s)
		if left == 0 {
			return
		}
		for _, piece := range pieces {
			grow(s+piece, left-1)
		}
	}
	grow("", longest)
}

// P7.1, P7.2: the chapter's example.
func TestExample(t *testing.T) {
	starts(t, "<A HREF=x a>", "a", "href", "x", "a", "")
}

// P7.1, P7.2: no bytes at all, and places where there is none.
func TestNowhere(t *testing.T) {
	for _, at := range append(nowhere, 0, 1) {
		none(t, nil, at)
		none(t, []byte{}, at)
	}
	for _, s := range []string{"<a>", "</a>", "<a", "xy<b>", "<"} {
		none(t, []byte(s), len(s))
		none(t, []byte(s), len(s)+1)
		for _, at := range nowhere {
			none(t, []byte(s), at)
		}
	}
}

// P7.1, P7.2: a byte within: only where the < stands.
func TestAtAByteWithin(t *testing.T) {
	s := "x<a b=c>y</d>"
	for at := range len(s) {
		switch at {
		case 1:
			reads(t, s, at, api.Token{Kind: api.Start, Name: "a", Attrs: []api.Attr{{Name: "b", Value: "c"}}, From: 1, To: 8})
		case 9:
			reads(t, s, at, api.Token{Kind: api.End, Name: "d", From: 9, To: 13})
		default:
			none(t, []byte(s), at)
		}
	}
}

// P7.1, P7.2: a < or a </ alone, and each byte behind it: only ahead of a letter a tag begins.
func TestEachByteBehind(t *testing.T) {
	none(t, []byte("<"), 0)
	none(t, []byte("</"), 0)
	for c := range 256 {
		letter := 'a' <= c && c <= 'z' || 'A' <= c && c <= 'Z'
		for _, front := range []string{"<", "</"} {
			for _, rest := range []string{"", "a", ">", "a>"} {
				b := append([]byte(front), append([]byte{byte(c)}, rest...)...)
				begins, end := tag.Begins(b, 0)
				_, ok := tag.Read(b, 0)
				wantBegins, wantEnd := letter, letter && front == "</"
				if front == "<" && c == '/' && rest != "" && rest[0] == 'a' {
					wantBegins, wantEnd = true, true
				}
				if begins != wantBegins || end != wantEnd || ok != wantBegins {
					t.Errorf("%q: %v %v %v", b, begins, end, ok)
				}
			}
		}
	}
}

// P7.1, P7.2: blanks, digits, marks and characters of several bytes begin no tag.
func TestNoTag(t *testing.T) {
	for _, s := range []string{
		"< a>", "<\ta>", "<\na>", "<\fa>", "<\ra>", "<\r\na>", "<1>", "<>", "<<a>", "<!a>", "<?a>", "<=a>", "<\"a>", "<'a>", "<&a>",
		"<\x00a>", "<\x7Fa>", "<\x80a>", "<\xFFa>", "<\xC3\xA4>", "<\u212A>", "<\uFF41>", "<@>", "<[>", "<`>", "<{>",
		"</ a>", "</\ta>", "</\na>", "</\ra>", "</1>", "</>", "<//a>", "</<a>", "</\x00a>", "</\x80a>", "</\xC3\xA4>", "</\u212A>",
		">a>", "a>", "/a>", "&lt;a>", "\uFF1Ca>",
	} {
		none(t, []byte(s), 0)
	}
}

// P7.1: Begins asks for the tag's beginning alone, whether the tag is cut or not.
func TestBegins(t *testing.T) {
	for _, x := range []struct {
		s           string
		at          int
		begins, end bool
	}{
		{"<a", 0, true, false}, {"<a>", 0, true, false}, {"<Z", 0, true, false}, {"<a b='", 0, true, false},
		{"</a", 0, true, true}, {"</a>", 0, true, true}, {"</Z", 0, true, true}, {"</a b='", 0, true, true},
		{"xy<b>", 2, true, false}, {"xy</b>", 2, true, true}, {"xy</b>", 3, false, false}, {"<<b>", 1, true, false},
	} {
		if begins, end := tag.Begins([]byte(x.s), x.at); begins != x.begins || end != x.end {
			t.Errorf("Begins(%q, %d): %v %v", x.s, x.at, begins, end)
		}
	}
}

// P7.2: start tags and end tags, their letters small; only those from A to Z are changed.
func TestNames(t *testing.T) {
	starts(t, "<a>", "a")
	starts(t, "<B>", "b")
	starts(t, "<aZ>", "az")
	starts(t, "<ABCDEFGHIJKLMNOPQRSTUVWXYZ>", "abcdefghijklmnopqrstuvwxyz")
	starts(t, "<h1>", "h1")
	starts(t, "<x-Y:z_0.@[`{>", "x-y:z_0.@[`{")
	ends(t, "</a>", "a")
	ends(t, "</BLOCKQUOTE>", "blockquote")
	ends(t, "</H6>", "h6")
}

// P7.2: characters of several bytes, and bytes that are no character, in names of tags and of attributes.
func TestNamesOddBytes(t *testing.T) {
	for _, x := range [][2]string{
		{"a\u00C4\u212A\uFF21", "a\u00C4\u212A\uFF21"},
		{"a\U0001F600B", "a\U0001F600b"},
		{"a\u00A0b\u0085c\u2003d\vE", "a\u00A0b\u0085c\u2003d\ve"},
		{"a\x00B", "a\uFFFDb"},
		{"a\x00", "a\uFFFD"},
		{"a\x00\x00\x00", "a\uFFFD\uFFFD\uFFFD"},
		{"a\xFFB\x80", "a\uFFFDb\uFFFD"},
		{"a\xC3", "a\uFFFD"},
		{"a\xE2\x82", "a\uFFFD\uFFFD"},
		{"a\xED\xA0\x80", "a\uFFFD\uFFFD\uFFFD"},
		{"a\xC0\xBE", "a\uFFFD\uFFFD"},
		{"a'B\"c", "a'b\"c"},
		{"a<b", "a<b"},
		{"a&lt;&#65;", "a&lt;&#65;"},
		{"a&amp", "a&amp"},
	} {
		starts(t, "<"+x[0]+">", x[1])
		starts(t, "<"+x[0]+" b>", x[1], "b", "")
		ends(t, "</"+x[0]+">", x[1])
		starts(t, "<q "+x[0]+">", "q", x[1], "")
		starts(t, "<q "+x[0]+"=1 c>", "q", x[1], "1", "c", "")
	}
}

// P7.2: an = and quotes are of a tag's name like others.
func TestNamesWithEqualsAndQuotes(t *testing.T) {
	starts(t, "<a=b>", "a=b")
	starts(t, "<a=>", "a=")
	starts(t, "<A='B c'>", "a='b", "c'", "")
	starts(t, "<a\"b>", "a\"b")
	starts(t, "<a'/b'>", "a'", "b'", "")
	ends(t, "</a=b>", "a=b")
	ends(t, "</a\"'>", "a\"'")
	// Quotes don't keep a tag's name open.
	reads(t, "<a'>'>", 0, api.Token{Kind: api.Start, Name: "a'", To: 4})
}

// P7.2: a byte 13, with and without a byte 10 behind it, is a line feed, which is a blank.
func TestLineEnds(t *testing.T) {
	for _, blank := range []string{"\r\n", "\r", "\n", "\r\r\n", "\n\r", "\t", "\f", " ", " \t\r\n\f\r"} {
		starts(t, "<a"+blank+">", "a")
		starts(t, "<a"+blank+"B>", "a", "b", "")
		starts(t, "<a b"+blank+"C>", "a", "b", "", "c", "")
		starts(t, "<a b"+blank+"="+blank+"C"+blank+"d>", "a", "b", "C", "d", "")
		starts(t, "<a b"+blank+"="+blank+"'C'"+blank+"d>", "a", "b", "C", "d", "")
		starts(t, "<a b="+blank+">", "a", "b", "")
		starts(t, "<a b='c'"+blank+">", "a", "b", "c")
		ends(t, "</a"+blank+">", "a")
		ends(t, "</a"+blank+"b>", "a")
	}
	starts(t, "<a b='\r\nx\ry\nz\n\r'>", "a", "b", "\nx\ny\nz\n\n")
	starts(t, "<a b=\"\r\">", "a", "b", "\n")
	starts(t, "<a b='\r'\n>", "a", "b", "\n")
	reads(t, "<a>\r\n", 0, api.Token{Kind: api.Start, Name: "a", To: 3})
}

// P7.2: what is no blank keeps no attributes apart.
func TestNoBlanks(t *testing.T) {
	for _, c := range []string{"\v", "\x1C", "\x7F", "\u0085", "\u00A0", "\u2028", "\u3000", "\uFEFF"} {
		starts(t, "<a"+c+"b>", "a"+c+"b")
		starts(t, "<a b"+c+"c>", "a", "b"+c+"c", "")
		starts(t, "<a b=1"+c+"c>", "a", "b", "1"+c+"c")
		starts(t, "<a b="+c+">", "a", "b", c)
		starts(t, "<a b"+c+"=1>", "a", "b"+c, "1")
	}
}

// P7.2: a / is passed over within a tag and at its end, but is of a value.
func TestSlashes(t *testing.T) {
	starts(t, "<a/>", "a")
	starts(t, "<a />", "a")
	starts(t, "<a//>", "a")
	starts(t, "<a/ />", "a")
	starts(t, "<a/b>", "a", "b", "")
	starts(t, "<a/b/c>", "a", "b", "", "c", "")
	starts(t, "<a / b / c / >", "a", "b", "", "c", "")
	starts(t, "<a b/=c>", "a", "b", "", "=c", "")
	starts(t, "<a b /=c>", "a", "b", "", "=c", "")
	starts(t, "<a b/ = c>", "a", "b", "", "=", "", "c", "")
	starts(t, "<a b=c/>", "a", "b", "c/")
	starts(t, "<a b=c/d/>", "a", "b", "c/d/")
	starts(t, "<a b=/>", "a", "b", "/")
	starts(t, "<a b= / c>", "a", "b", "/", "c", "")
	starts(t, "<a b='/'/c>", "a", "b", "/", "c", "")
	starts(t, "<a b=\"c\"/>", "a", "b", "c")
	ends(t, "</a/>", "a")
	ends(t, "</a/b/>", "a")
}

// P7.2: attributes without a value, and with one that is nothing.
func TestNoValue(t *testing.T) {
	starts(t, "<a b>", "a", "b", "")
	starts(t, "<a b >", "a", "b", "")
	starts(t, "<a b c D>", "a", "b", "", "c", "", "d", "")
	starts(t, "<a b=''>", "a", "b", "")
	starts(t, "<a b=\"\">", "a", "b", "")
	starts(t, "<a b=''c=\"\"d>", "a", "b", "", "c", "", "d", "")
	starts(t, "<a b=>", "a", "b", "")
	starts(t, "<a b= >", "a", "b", "")
	starts(t, "<a b = >", "a", "b", "")
	starts(t, "<a b c=>", "a", "b", "", "c", "")
	reads(t, "<a b=>c>", 0, api.Token{Kind: api.Start, Name: "a", Attrs: []api.Attr{{Name: "b"}}, To: 6})
}

// P7.2: values in quotes end with the same quote alone; their letters stay as they are.
func TestQuoted(t *testing.T) {
	starts(t, "<a b='C d'>", "a", "b", "C d")
	starts(t, "<a b=\"C d\">", "a", "b", "C d")
	starts(t, "<a b=\"'>'\">", "a", "b", "'>'")
	starts(t, "<a b='\">\"'>", "a", "b", "\">\"")
	starts(t, "<a b='</a><c>'>", "a", "b", "</a><c>")
	starts(t, "<a b='=/ \t\n'>", "a", "b", "=/ \t\n")
	starts(t, "<a b = 'c' d = \"e\" >", "a", "b", "c", "d", "e")
	starts(t, "<a b='\x00\xFF\u00C4'>", "a", "b", "\uFFFD\uFFFD\u00C4")
	starts(t, "<a b='`'>", "a", "b", "`")
}

// P7.2: right behind a quoted value the next attribute may begin, whatever it begins with.
func TestBehindQuoted(t *testing.T) {
	starts(t, "<a b='c'd>", "a", "b", "c", "d", "")
	starts(t, "<a b=\"c\"D='e'>", "a", "b", "c", "d", "e")
	starts(t, "<a b='c''d>", "a", "b", "c", "'d", "")
	starts(t, "<a b='c'\"d\"=e>", "a", "b", "c", "\"d\"", "e")
	starts(t, "<a b='c'=d>", "a", "b", "c", "=d", "")
	starts(t, "<a b='c'=d=e>", "a", "b", "c", "=d", "e")
	starts(t, "<a b='c' =d>", "a", "b", "c", "=d", "")
}

// P7.2: values without quotes go on up to a blank or a > , whatever they hold.
func TestUnquoted(t *testing.T) {
	starts(t, "<a b=C>", "a", "b", "C")
	starts(t, "<a b=C d=E>", "a", "b", "C", "d", "E")
	starts(t, "<a b = C>", "a", "b", "C")
	starts(t, "<a b==>", "a", "b", "=")
	starts(t, "<a b=c=d>", "a", "b", "c=d")
	starts(t, "<a b=c'd\"e>", "a", "b", "c'd\"e")
	starts(t, "<a b=c'>", "a", "b", "c'")
	starts(t, "<a b=`c d`>", "a", "b", "`c", "d`", "")
	starts(t, "<a b=<c>", "a", "b", "<c")
	starts(t, "<a b=http://x/y?z#&>", "a", "b", "http://x/y?z#&")
	starts(t, "<a b=\x00c\xFF>", "a", "b", "\uFFFDc\uFFFD")
	starts(t, "<a b=\u00C4\U0001F600>", "a", "b", "\u00C4\U0001F600")
}

// P7.2: an attribute's name begins with the next character, whichever it is.
func TestNamesBegin(t *testing.T) {
	starts(t, "<a =>", "a", "=", "")
	starts(t, "<a ==>", "a", "=", "")
	starts(t, "<a ===>", "a", "=", "=")
	starts(t, "<a =b>", "a", "=b", "")
	starts(t, "<a =b=c>", "a", "=b", "c")
	starts(t, "<a = b>", "a", "=", "", "b", "")
	starts(t, "<a = =b>", "a", "=", "b")
	starts(t, "<a/=b>", "a", "=b", "")
	starts(t, "<a 'b'>", "a", "'b'", "")
	starts(t, "<a \"b c\"=1>", "a", "\"b", "", "c\"", "1")
	starts(t, "<a \"=1>", "a", "\"", "1")
	starts(t, "<a <b>", "a", "<b", "")
	starts(t, "<a <=1>", "a", "<", "1")
	starts(t, "<a </b>", "a", "<", "", "b", "")
	starts(t, "<a Bc-D_1:e=1>", "a", "bc-d_1:e", "1")
	starts(t, "<a \x00=1>", "a", "\uFFFD", "1")
	starts(t, "<a \xFF>", "a", "\uFFFD", "")
	starts(t, "<a \u00C4>", "a", "\u00C4", "")
	starts(t, "<a &lt;=1>", "a", "&lt;", "1")
	// Quotes in a name keep no tag open.
	reads(t, "<a b'>'>", 0, api.Token{Kind: api.Start, Name: "a", Attrs: []api.Attr{{Name: "b'"}}, To: 6})
	reads(t, "<a '>'>", 0, api.Token{Kind: api.Start, Name: "a", Attrs: []api.Attr{{Name: "'"}}, To: 5})
}

// P7.2: of a name that is there several times the first one stays, also by its letters made small.
func TestTwice(t *testing.T) {
	starts(t, "<a b=1 b=2>", "a", "b", "1")
	starts(t, "<a b=1 B=2>", "a", "b", "1")
	starts(t, "<a B=1 b=2>", "a", "b", "1")
	starts(t, "<a b b=2>", "a", "b", "")
	starts(t, "<a b='' b=2 c>", "a", "b", "", "c", "")
	starts(t, "<a b=2 b>", "a", "b", "2")
	starts(t, "<a b=1 c=2 b=3 d=4 C=5 e b=6>", "a", "b", "1", "c", "2", "d", "4", "e", "")
	starts(t, "<a a>", "a", "a", "")
	starts(t, "<a \x00=1 \xFF=2 \uFFFD=3>", "a", "\uFFFD", "1")
	starts(t, "<a \u00E4=1 \u00C4=2>", "a", "\u00E4", "1", "\u00C4", "2")
	starts(t, "<a k=1 \u212A=2>", "a", "k", "1", "\u212A", "2")
	// A name that was there still has its value read.
	starts(t, "<a b=1 b='>' c>", "a", "b", "1", "c", "")
}

// P7.2: values are read as attributes' texts by layer 5, however they stand.
func TestReferences(t *testing.T) {
	for _, x := range [][2]string{
		{"&lt;", "<"}, {"&lt", "<"}, {"&LT;", "<"}, {"&amp;amp;", "&amp;"}, {"&quot;&apos;", "\"'"}, {"&gt;x", ">x"},
		{"&#65;", "A"}, {"&#65", "A"}, {"&#x41;", "A"}, {"&#X41", "A"}, {"&#0;", "\uFFFD"}, {"&#128;", "\u20AC"}, {"&#9999999;", "\uFFFD"},
		{"&#65b", "Ab"}, {"&#65=", "A="}, {"&#x41g", "Ag"},
		{"&copy", "\u00A9"}, {"&copy;", "\u00A9"}, {"&copy;=1", "\u00A9=1"}, {"&copy=1", "&copy=1"}, {"&copyx", "&copyx"}, {"&copyX", "&copyX"}, {"&copy1", "&copy1"},
		{"&copy-", "\u00A9-"}, {"&copy&", "\u00A9&"}, {"&copy&copy=", "\u00A9&copy="}, {"&copy\x00", "\u00A9\uFFFD"},
		{"&notin;", "\u2209"}, {"&notit", "&notit"}, {"&apos", "&apos"}, {"&", "&"}, {"&#", "&#"}, {"&#x", "&#x"}, {"&;", "&;"}, {"?a&b=c&lt=d", "?a&b=c&lt=d"},
	} {
		starts(t, "<a b='"+x[0]+"'>", "a", "b", x[1])
		starts(t, "<a b=\""+x[0]+"\" c>", "a", "b", x[1], "c", "")
		starts(t, "<a b="+x[0]+">", "a", "b", x[1])
		starts(t, "<a b="+x[0]+" c>", "a", "b", x[1], "c", "")
	}
	// A value ends where its bytes do, not where what they stand for would.
	starts(t, "<a b='&#39;c&apos;'>", "a", "b", "'c'")
	starts(t, "<a b=c&#32;d&gt;>", "a", "b", "c d>")
	starts(t, "<a b=&quot;c d&quot;>", "a", "b", "\"c", "d&quot;", "")
	// What stands behind a value is none of it.
	starts(t, "<a b='&copy'x>", "a", "b", "\u00A9", "x", "")
	starts(t, "<a b='&copy'=1>", "a", "b", "\u00A9", "=1", "")
	starts(t, "<a b='&lt';>", "a", "b", "<", ";", "")
	starts(t, "<a b='&l't;>", "a", "b", "&l", "t;", "")
}

// P7.2: an end tag may have attributes, which are passed over like a start tag's, but none is answered.
func TestEndTagAttributes(t *testing.T) {
	ends(t, "</a b>", "a")
	ends(t, "</a b=c d>", "a")
	ends(t, "</a b='>' c=\">\">", "a")
	ends(t, "</a b=c b=d>", "a")
	ends(t, "</a =>", "a")
	ends(t, "</a b=>", "a")
	reads(t, "</a b='x>y'>z>", 0, api.Token{Kind: api.End, Name: "a", To: 12})
}

// P7.2: tags that are cut at each of their bytes.
func TestCut(t *testing.T) {
	for _, s := range []string{
		"<a>", "</a>", "<abc >", "</abc >", "<a/>", "<a b>", "<a b >", "<a b=c>", "<a b = c >", "<a b='c' >", "<a b=\"c\" >",
		"<a b='>>' c=\">'\"/>", "<a =>", "<a b=>", "<a b= >", "</a b='>' c>", "<A HREF=x a>", "<a b\r\n=\r\n'x\r\ny'\r\n>",
		"<a\u00C4 \u00C4=\u00C4\xFF\x00>", "<a b=&lt;&#65; c='&copy=1'>", "<a b=1 b=2 b=3>", "<a b=c/d/>",
	} {
		cutAnywhere(t, s)
	}
	for _, s := range []string{"<a b='c>", "<a b='c\">", "<a b=\"c'>", "<a b='c'd='>", "</a b='>", "<a b=\">\r\n", "<a <b", "<a b='></a>", "<a \x00", "<a b=\xE2\x82"} {
		reads(t, s, 0, api.Token{To: len(s)})
	}
}

// P7.2: whatever stands behind a tag, or ahead of it, is none of it.
func TestBehindAndAhead(t *testing.T) {
	for _, x := range []api.Token{
		{Kind: api.Start, Name: "a", Text: "<a>"},
		{Kind: api.Start, Name: "a", Text: "<a b=c/>", Attrs: []api.Attr{{Name: "b", Value: "c/"}}},
		{Kind: api.End, Name: "a", Text: "</A b='>'>"},
	} {
		for _, ahead := range []string{"", "x", "<", "</", "<b c='", "<b ", "&lt", "\r", "\xE2"} {
			for _, behind := range []string{"", "x", ">", "'>", "<a>", "</a>", "\n", "\x00", "\xFF", " b=c>", "/>"} {
				want := x
				want.Text, want.From, want.To = "", len(ahead), len(ahead)+len(x.Text)
				reads(t, ahead+x.Text+behind, len(ahead), want)
			}
		}
	}
}

// P7.2: bytes behind b's end, in its memory alone, are none of b's.
func TestStaysWithinLength(t *testing.T) {
	none(t, []byte("<a>")[:1], 0)
	none(t, []byte("</a>")[:2], 0)
	for _, s := range []string{"<a b='c' d=e f>", "</a b='c'>"} {
		for n := 3; n < len(s); n++ {
			got, ok := tag.Read([]byte(s)[:n], 0)
			if !ok || !equal(got, api.Token{To: n}) {
				t.Errorf("%q: %+v %v", s[:n], got, ok)
			}
		}
	}
	got, _ := tag.Read([]byte("<a b='\r'\n>")[:8], 0)
	if want := (api.Token{To: 8}); !equal(got, want) {
		t.Errorf("%+v", got)
	}
}

// P7.1, P7.2: at all short texts of what begins a tag, at each byte and on either side, by the model.
func TestModelOfBeginnings(t *testing.T) {
	each([]string{"<", "/", "a", "Z", ">", " ", "1", "\x80"}, 5, func(s string) {
		for at := -1; at <= len(s)+1; at++ {
			models(t, []byte(s), at)
		}
	})
}

// P7.2: at all short texts behind a tag's beginning, by the model.
func TestModelOfShortTags(t *testing.T) {
	pieces := []string{"B", "=", "\"", "'", "/", ">", " ", "\r", "\x00", "&lt"}
	for _, front := range []string{"<a", "</a", "<a ", "<a b="} {
		each(pieces, 4, func(s string) {
			models(t, []byte(front+s), 0)
			models(t, []byte(front+s+">"), 0)
		})
	}
	each([]string{"b", "=", "'", "/", ">", " "}, 6, func(s string) { models(t, []byte("<a "+s+"c>"), 0) })
}

// P7.2: each byte at each place of a tag, by the model.
func TestModelOfEachByte(t *testing.T) {
	for _, s := range []string{"<a b=c d='e' f=\"g\" h / i>x", "</ab c='>'>", "<a b = 1 B=&lt;&copy=>"} {
		for at := range len(s) {
			for c := range 256 {
				put := []byte(s[:at] + string([]byte{byte(c)}) + s[at:])
				models(t, put, 0)
				changed := []byte(s)
				changed[at] = byte(c)
				models(t, changed, 0)
			}
		}
	}
}

// P1, P7.2: long tags are read to their ends, also those with very many attributes.
func TestLongTags(t *testing.T) {
	const n = 200000
	name := strings.Repeat("aB", n)
	starts(t, "<"+name+">", strings.ToLower(name))
	starts(t, "<a"+strings.Repeat(" /", n)+">", "a")
	starts(t, "<a b='"+strings.Repeat("&lt;>", n)+"'>", "a", "b", strings.Repeat("<>", n))
	starts(t, "<a"+strings.Repeat(" b=1", n)+">", "a", "b", "1")
	reads(t, "<a"+strings.Repeat(" b='>'", n), 0, api.Token{To: 2 + 6*n})
	var s strings.Builder
	var words []string
	for i := range n {
		word := "x" + strconv.Itoa(i)
		s.WriteString(" " + word + "=" + word)
		words = append(words, word, word)
	}
	starts(t, "<a"+s.String()+">", "a", words...)
}

// K5: what is handed in stays as it was, and what is answered shares no memory with it.
func TestNotChangedNotKept(t *testing.T) {
	const s = "x<Ab Cd='E&lt;' f=G h>y"
	b := append(make([]byte, 0, 99), s...)
	spare := b[:cap(b)]
	copy(spare[len(s):], strings.Repeat("z", 99))
	before := bytes.Clone(spare)
	want := api.Token{Kind: api.Start, Name: "ab", Attrs: []api.Attr{{Name: "cd", Value: "E<"}, {Name: "f", Value: "G"}, {Name: "h"}}, From: 1, To: len(s) - 1}
	tag.Begins(b, 1)
	got, _ := tag.Read(b, 1)
	if !bytes.Equal(spare, before) {
		t.Errorf("changed: %q", spare)
	}
	for i := range spare {
		spare[i] = '#'
	}
	if !equal(got, want) {
		t.Errorf("kept: %+v", got)
	}
	again, _ := tag.Read([]byte(s), 1)
	for i := range again.Attrs[:cap(again.Attrs)] {
		again.Attrs[:cap(again.Attrs)][i] = api.Attr{Name: "#", Value: "#"}
	}
	third, _ := tag.Read([]byte(s), 1)
	if !equal(got, want) || !equal(third, want) {
		t.Errorf("answers share memory: %+v %+v", got, third)
	}
}

// K6: the same is answered again, whatever was asked in between, and by many at once.
func TestSameAgain(t *testing.T) {
	texts := []string{"<a b=1 B=2 c='3'>", "</a b>", "<a b='", "< a>", "<c b=2 d>"}
	var group sync.WaitGroup
	for range 8 {
		group.Go(func() {
			for i := range 200 {
				b := []byte(texts[i%len(texts)])
				want, there := modelRead(b, 0)
				if got, ok := tag.Read(b, 0); ok != there || !equal(got, want) {
					t.Errorf("%q: %+v %v", b, got, ok)
				}
			}
		})
	}
	group.Wait()
}
