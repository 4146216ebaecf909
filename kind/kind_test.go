package kind_test

import (
	"math"
	"slices"
	"strings"
	"sync"
	"testing"

	"decanter/kind"
)

// row is one of the chapter's lists: a kind, and the names that are of it.
type row struct {
	kind  int
	names []string
}

// table is the chapter's lists, in their order.
var table = []row{
	{1, []string{
		"area", "base", "basefont", "bgsound", "br", "embed", "hr", "img", "input", "keygen", "link", "meta", "param", "source", "track", "wbr",
	}},
	{2, []string{
		"address", "article", "aside", "blockquote", "center", "dd", "details", "dialog", "dir", "div", "dl", "dt", "fieldset", "figcaption", "figure",
		"footer", "form", "h1", "h2", "h3", "h4", "h5", "h6", "header", "hgroup", "hr", "li", "listing", "main", "menu", "nav", "ol", "p", "plaintext",
		"pre", "section", "summary", "table", "ul", "xmp",
	}},
	{4, []string{
		"h1", "h2", "h3", "h4", "h5", "h6",
	}},
	{8, []string{
		"a", "b", "big", "code", "em", "font", "i", "nobr", "s", "small", "strike", "strong", "tt", "u",
	}},
	{16, []string{
		"address", "applet", "area", "article", "aside", "base", "basefont", "bgsound", "blockquote", "br", "button", "center", "dd", "details", "dir",
		"div", "dl", "dt", "embed", "fieldset", "figcaption", "figure", "footer", "form", "h1", "h2", "h3", "h4", "h5", "h6", "header", "hgroup", "hr",
		"iframe", "img", "input", "keygen", "li", "link", "listing", "main", "marquee", "menu", "meta", "nav", "noembed", "noframes", "object", "ol",
		"p", "param", "plaintext", "pre", "script", "section", "select", "source", "style", "summary", "table", "template", "textarea", "title",
		"track", "ul", "wbr", "xmp",
	}},
	{32, []string{
		"applet", "marquee", "object", "table", "template",
	}},
	{64, []string{
		"body", "caption", "col", "colgroup", "frame", "frameset", "head", "html", "tbody", "td", "tfoot", "th", "thead", "tr",
	}},
	{128, []string{
		"dd", "dt", "li", "optgroup", "option", "p", "rb", "rp", "rt", "rtc",
	}},
	{256, []string{
		"applet", "marquee", "object",
	}},
	{512, []string{
		"a", "abbr", "address", "article", "aside", "b", "bdi", "bdo", "big", "blockquote", "br", "center", "cite", "code", "dd", "del", "dfn", "dir",
		"div", "dl", "dt", "em", "figcaption", "figure", "font", "footer", "h1", "h2", "h3", "h4", "h5", "h6", "header", "hr", "i", "img", "ins",
		"kbd", "li", "main", "mark", "nav", "ol", "p", "pre", "q", "s", "samp", "section", "small", "span", "strike", "strong", "sub", "sup", "time",
		"tt", "u", "ul", "var", "wbr",
	}},
}

// every is the ten kinds, added.
const every = 1<<10 - 1

// otherBits are bits that are none of the ten.
var otherBits = []int{1 << 10, 1 << 20, 1 << 31, 1 << 32, 1 << 62, math.MinInt, math.MinInt | 1<<10, 1<<10 | 1<<20, -1 << 10, math.MaxInt &^ every}

// kinds is the model: the kinds of each name of the lists, added.
var kinds = func() map[string]int {
	all := map[string]int{}
	for _, r := range table {
		for _, name := range r.names {
			all[name] += r.kind
		}
	}
	return all
}()

// modelAll is All by the model: the names of the lists of some kinds, rising, each once.
func modelAll(some int) []string {
	var names []string
	for _, r := range table {
		if r.kind&some != 0 {
			names = append(names, r.names...)
		}
	}
	slices.Sort(names)
	return slices.Compact(names)
}

// oneByte gives a byte as a text.
func oneByte(c int) string { return string([]byte{byte(c)}) }

// of checks the kinds of a name.
func of(t *testing.T, name string, want int) {
	t.Helper()
	if got := kind.Of(name); got != want {
		t.Errorf("Of(%q): %d, not %d", name, got, want)
	}
}

// is checks whether a name is of one of some kinds.
func is(t *testing.T, name string, some int, want bool) {
	t.Helper()
	if got := kind.Is(name, some); got != want {
		t.Errorf("Is(%q, %d): %t", name, some, got)
	}
}

// all checks the names that are of one of some kinds.
func all(t *testing.T, some int, want []string) {
	t.Helper()
	if got := kind.All(some); !slices.Equal(got, want) {
		t.Errorf("All(%d): %q, not %q", some, got, want)
	}
}

// none checks that a name is of no kind.
func none(t *testing.T, name string) {
	t.Helper()
	of(t, name, 0)
	for at := range 64 {
		is(t, name, 1<<at, false)
	}
	for _, some := range []int{0, every, -1, math.MaxInt} {
		is(t, name, some, false)
	}
}

// near checks a name that is nearly a listed one, which it may be itself.
func near(t *testing.T, name string) {
	t.Helper()
	of(t, name, kinds[name])
	is(t, name, -1, kinds[name] != 0)
}

// Types: each kind is the number that the chapter tells, which fits any kind of number.
func TestNumbers(t *testing.T) {
	for at, got := range []int{
		kind.Void, kind.Closer, kind.Heading, kind.Format, kind.Special, kind.Scope, kind.Ignored, kind.Implied, kind.Marker, kind.Safe,
	} {
		if got != 1<<at || got != table[at].kind {
			t.Errorf("%d: %d", at, got)
		}
	}
	if got := [3]uint8{kind.Void, kind.Heading, kind.Implied}; got != [3]uint8{1, 4, 128} {
		t.Error(got)
	}
	if got := [2]float32{kind.Marker, kind.Safe}; got != [2]float32{256, 512} {
		t.Error(got)
	}
}

// P11.1: the chapter's example.
func TestExample(t *testing.T) {
	of(t, "p", kind.Closer+kind.Special+kind.Implied+kind.Safe)
	of(t, "p", 2+16+128+512)
	for _, r := range table {
		is(t, "p", r.kind, slices.Contains([]int{kind.Closer, kind.Special, kind.Implied, kind.Safe}, r.kind))
	}
}

// P11.1: all kinds of each listed name, added; how the name lies in memory is nothing to it.
func TestOfEachName(t *testing.T) {
	for name, want := range kinds {
		of(t, name, want)
		of(t, strings.Clone(name), want)
		of(t, ("<" + name + ">")[1:len(name)+1], want)
	}
}

// P11.1: some names' kinds, each a sum written out.
func TestOfSomeNames(t *testing.T) {
	of(t, "hr", kind.Void|kind.Closer|kind.Special|kind.Safe)
	of(t, "h1", kind.Closer|kind.Heading|kind.Special|kind.Safe)
	of(t, "object", kind.Special|kind.Scope|kind.Marker)
	of(t, "table", kind.Closer|kind.Special|kind.Scope)
	of(t, "template", kind.Special|kind.Scope)
	of(t, "dd", kind.Closer|kind.Special|kind.Implied|kind.Safe)
	of(t, "rtc", kind.Implied)
	of(t, "tt", kind.Format|kind.Safe)
	of(t, "nobr", kind.Format)
	of(t, "var", kind.Safe)
	of(t, "textarea", kind.Special)
	of(t, "dialog", kind.Closer)
	of(t, "colgroup", kind.Ignored)
}

// P11.1: names of elements that are on no list, and the empty name.
func TestOtherNames(t *testing.T) {
	for _, name := range []string{
		"", "image", "svg", "math", "noscript", "label", "ruby", "canvas", "video", "audio", "picture", "data", "output", "meter", "progress", "map",
		"legend", "slot", "search", "portal", "isindex", "acronym", "blink", "command", "menuitem", "multicol", "nextid", "spacer", "x-y", "h", "h0",
		"h7", "h10", "rtx", "void", "closer", "heading", "format", "special", "scope", "ignored", "implied", "marker", "safe", "0", "-", ",", ", ",
	} {
		none(t, name)
	}
}

// P11.1: a name with a great letter, the first one or any other, or with great ones alone, is another one.
func TestGreatLetters(t *testing.T) {
	for name := range kinds {
		none(t, strings.ToUpper(name))
		for at := range len(name) {
			if great := name[:at] + strings.ToUpper(name[at:at+1]) + name[at+1:]; great != name {
				none(t, great)
			}
		}
	}
}

// P11.1: a name with a blank or a byte 0 more, ahead or behind, and two names with a blank between them, are of no kind.
func TestBlanks(t *testing.T) {
	for name := range kinds {
		for _, gap := range []string{" ", "\t", "\n", "\f", "\r", "\x0B", "\x00", "\u00A0", "\u2028", "\uFEFF", ",", ", "} {
			none(t, gap+name)
			none(t, name+gap)
			none(t, gap+name+gap)
		}
		for other := range kinds {
			none(t, name+" "+other)
		}
	}
	none(t, " ")
	none(t, "\x00")
	none(t, "h1 h2 h3 h4 h5 h6")
}

// P11.1: a listed name with one byte more, less or changed is what the lists say of that, mostly nothing.
func TestNearNames(t *testing.T) {
	for name := range kinds {
		near(t, name[:len(name)-1])
		near(t, name[1:])
		near(t, name+name)
		for at := range len(name) + 1 {
			near(t, name[:at])
			near(t, name[at:])
			for c := range 256 {
				near(t, name[:at]+oneByte(c)+name[at:])
			}
		}
		for at := range len(name) {
			near(t, name[:at]+name[at+1:])
			for c := range 256 {
				near(t, name[:at]+oneByte(c)+name[at+1:])
			}
		}
	}
}

// P11.1: all names of one byte and of two bytes: just those that are listed have kinds.
func TestShortNames(t *testing.T) {
	for one := range 256 {
		near(t, oneByte(one))
		for two := range 256 {
			near(t, oneByte(one)+oneByte(two))
		}
	}
}

// P11.1: bytes that are neither letters nor digits, that are no UTF-8, and characters that look or fold like letters.
func TestStrangeNames(t *testing.T) {
	for _, name := range []string{
		"\x80", "\xFF", "\xC3", "\xE2\x82", "\xED\xA0\x80", "\xF0\x9F\x98", "p\x80", "\x80p", "p\xFF", "\xC3p", "p\xC3", "b\x00r", "b\x80r",
		"\u00E9", "\u20AC", "\U0001F600", "p\u0301", "\u0430", "\uFF50", "\uFF42\uFF52", "\u017F", "\u017Fmall", "l\u0131", "\u0130", "\u212Abd",
		"<p>", "</p>", "p>", "/p", "p/", "p=", "'p'", "\"p\"", "&p;", "h-1", "h.1", "h\u00B9", "\uFFFD", "p\uFFFD", "%70", "&#112;",
	} {
		none(t, name)
	}
}

// P11.1, P1: names of some thousand bytes, which may begin or end with a listed one, are of no kind.
func TestLongNames(t *testing.T) {
	for _, n := range []int{1000, 4096, 1 << 16, 1 << 20} {
		for _, in := range []string{"a", "p", "h1", "\x00", "\xFF", " ", "b "} {
			none(t, strings.Repeat(in, n))
			none(t, strings.Repeat(in, n)+"p")
			none(t, "blockquote"+strings.Repeat(in, n))
		}
	}
}

// P11.1: each listed name and each one of the ten kinds.
func TestIsOfEachKind(t *testing.T) {
	for _, r := range table {
		for name := range kinds {
			is(t, name, r.kind, slices.Contains(r.names, name))
		}
	}
}

// P11.1: each listed name and two kinds: of both, of one of them, and of neither.
func TestIsOfTwoKinds(t *testing.T) {
	for _, one := range table {
		for _, two := range table {
			for name := range kinds {
				is(t, name, one.kind|two.kind, slices.Contains(one.names, name) || slices.Contains(two.names, name))
			}
		}
	}
	is(t, "hr", kind.Void+kind.Closer, true)
	is(t, "li", kind.Void+kind.Implied, true)
	is(t, "li", kind.Closer+kind.Marker, true)
	is(t, "li", kind.Void+kind.Marker, false)
	is(t, "span", every-kind.Safe, false)
}

// P11.1: each listed name and each choice of the ten kinds.
func TestIsOfEachChoice(t *testing.T) {
	for name, own := range kinds {
		for some := range every + 1 {
			is(t, name, some, own&some != 0)
		}
	}
}

// P11.1: bits other than the ten count for nothing, alone or beside one of them; -1 has all ten.
func TestIsOfOtherBits(t *testing.T) {
	for name, own := range kinds {
		is(t, name, 0, false)
		is(t, name, every, true)
		is(t, name, -1, true)
		is(t, name, math.MaxInt, true)
		for _, bits := range otherBits {
			is(t, name, bits, false)
			for _, r := range table {
				is(t, name, bits|r.kind, own&r.kind != 0)
				is(t, name, bits|every&^r.kind, own != r.kind)
			}
		}
	}
	for at := 10; at < 64; at++ {
		is(t, "p", 1<<at, false)
		is(t, "p", 1<<at|kind.Closer, true)
		is(t, "p", 1<<at|kind.Void, false)
	}
}

// P11.1: all names of each one of the ten kinds are the chapter's list, which rises.
func TestAllOfEachKind(t *testing.T) {
	for _, r := range table {
		all(t, r.kind, r.names)
	}
}

// P11.1: all names of each choice of kinds, each name once, though it is of several.
func TestAllOfEachChoice(t *testing.T) {
	for some := range every + 1 {
		all(t, some, modelAll(some))
	}
	all(t, kind.Heading|kind.Marker, []string{"applet", "h1", "h2", "h3", "h4", "h5", "h6", "marquee", "object"})
	all(t, kind.Scope|kind.Marker, []string{"applet", "marquee", "object", "table", "template"})
	all(t, kind.Closer|kind.Heading, table[1].names)
}

// P11.1: what All answers rises, has each name once, and has just those of which Is is true.
func TestAllAgreesWithIs(t *testing.T) {
	for _, some := range []int{0, 1, 3, 24, 96, 512, 600, every, -1, math.MinInt, math.MaxInt, 1 << 20, 1<<20 | 8} {
		names := kind.All(some)
		for at, name := range names {
			is(t, name, some, true)
			if at > 0 && names[at-1] >= name {
				t.Errorf("All(%d): %q ahead of %q", some, names[at-1], name)
			}
		}
		for name := range kinds {
			is(t, name, some, slices.Contains(names, name))
		}
	}
}

// P11.1: all names of all ten kinds, which -1 has too.
func TestAllOfAllKinds(t *testing.T) {
	names := modelAll(every)
	if len(names) != len(kinds) {
		t.Fatal(len(names), len(kinds))
	}
	all(t, every, names)
	all(t, -1, names)
	all(t, math.MaxInt, names)
}

// P11.1, K1: of no kind at all, and of other bits alone, there are no names; beside some of the ten these bits count for nothing.
func TestAllOfOtherBits(t *testing.T) {
	all(t, 0, nil)
	for _, bits := range otherBits {
		all(t, bits, nil)
		for _, r := range table {
			all(t, bits|r.kind, r.names)
		}
		all(t, bits|every, modelAll(every))
	}
	for at := 10; at < 64; at++ {
		all(t, 1<<at, nil)
		all(t, 1<<at|kind.Heading, table[2].names)
	}
}

// K5: an answer that its caller changes, or makes longer, changes no other one.
func TestAnswersAreNew(t *testing.T) {
	for _, some := range []int{kind.Void, kind.Heading, kind.Safe, kind.Scope | kind.Marker, every, -1} {
		want := modelAll(some)
		first, second := kind.All(some), kind.All(some)
		spare := first[:cap(first)]
		for at := range spare {
			spare[at] = "changed"
		}
		_ = append(first[:0], "x", "y", "z")
		if !slices.Equal(second, want) {
			t.Errorf("All(%d), answered ahead of the change: %q", some, second)
		}
		all(t, some, want)
		none(t, "changed")
		none(t, "x")
	}
	for name, own := range kinds {
		of(t, name, own)
	}
	for _, r := range table {
		all(t, r.kind, r.names)
	}
}

// K5: the bytes of which a name was made may change once it is asked: nothing of it is kept.
func TestNamesAreNotKept(t *testing.T) {
	b := []byte("h1")
	for _, c := range "123456789x" {
		b[1] = byte(c)
		of(t, string(b), kinds[string(b)])
	}
	for range 3 {
		none(t, "changed")
		of(t, "h1", kinds["h1"])
	}
	all(t, every, modelAll(every))
}

// K6: the same call answers the same, however often, and to many at once.
func TestSameAgain(t *testing.T) {
	var group sync.WaitGroup
	for range 8 {
		group.Go(func() {
			for i := range 200 {
				some := i * 37 & every
				all(t, some, modelAll(some))
				all(t, kind.Closer, table[1].names)
				name := table[i%10].names[i%3]
				of(t, name, kinds[name])
				is(t, name, some, kinds[name]&some != 0)
				none(t, name+"?")
			}
		})
	}
	group.Wait()
}
