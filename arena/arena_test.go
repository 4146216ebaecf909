package arena_test

import (
	"math"
	"slices"
	"strconv"
	"strings"
	"sync"
	"testing"

	"decanter/api"
	"decanter/arena"
)

// of makes attributes of words such as a=1; a word without = is a name without a value.
func of(words ...string) []api.Attr {
	var l []api.Attr
	for _, word := range words {
		name, value, _ := strings.Cut(word, "=")
		l = append(l, api.Attr{Name: name, Value: value})
	}
	return l
}

// some gives an arena with elements of some names, from the number 1 on, that stand in none.
func some(names ...string) *arena.Arena {
	a := arena.New()
	for _, name := range names {
		a.Element(name, nil)
	}
	return a
}

// text gives a text, and element an element, as nodes.
func text(s string) api.Node { return api.Node{Text: s} }
func element(name string, attrs []api.Attr, inner ...api.Node) api.Node {
	return api.Node{Name: name, Attrs: attrs, Inner: inner}
}

// show writes nodes out: texts in quotes; elements by their names, with attributes in brackets and what stands in them in braces. What a text or an element has that it shouldn't have is to be seen too.
func show(l []api.Node) string {
	var b strings.Builder
	var write func(l []api.Node)
	write = func(l []api.Node) {
		for at, n := range l {
			if at > 0 {
				b.WriteByte(' ')
			}
			b.WriteString(n.Name)
			b.WriteString(showAttrs(n.Attrs))
			if n.Name == "" || n.Text != "" {
				b.WriteString(strconv.Quote(n.Text))
			}
			if len(n.Inner) > 0 {
				b.WriteByte('{')
				write(n.Inner)
				b.WriteByte('}')
			}
		}
	}
	write(l)
	return b.String()
}

// showAttrs writes attributes out.
func showAttrs(l []api.Attr) string {
	var b strings.Builder
	for _, a := range l {
		b.WriteString("[" + a.Name + "=" + strconv.Quote(a.Value) + "]")
	}
	return b.String()
}

// holds checks what stands in a node.
func holds(t *testing.T, a *arena.Arena, i int, want string) {
	t.Helper()
	if got := show(a.Nodes(i)); got != want {
		t.Errorf("Nodes(%d): %s, not %s", i, got, want)
	}
}

// stands checks in which node one stands.
func stands(t *testing.T, a *arena.Arena, i, want int) {
	t.Helper()
	if got := a.Parent(i); got != want {
		t.Errorf("Parent(%d): %d, not %d", i, got, want)
	}
}

// named checks an element's name and attributes.
func named(t *testing.T, a *arena.Arena, i int, name, attrs string) {
	t.Helper()
	if got := a.Name(i); got != name {
		t.Errorf("Name(%d): %q, not %q", i, got, name)
	}
	if got := showAttrs(a.Attrs(i)); got != attrs {
		t.Errorf("Attrs(%d): %s, not %s", i, got, attrs)
	}
}

// is checks a number.
func is(t *testing.T, what string, got, want int) {
	t.Helper()
	if got != want {
		t.Errorf("%s: %d, not %d", what, got, want)
	}
}

// counts checks Count.
func counts(t *testing.T, l []api.Node, nodes, depth int) {
	t.Helper()
	if n, d := arena.Count(l); n != nodes || d != depth {
		t.Errorf("Count(%.80s): %d and %d, not %d and %d", show(l), n, d, nodes, depth)
	}
}

// same checks Same, asked either way round.
func same(t *testing.T, a, b []api.Node, want bool) {
	t.Helper()
	for _, way := range [][2][]api.Node{{a, b}, {b, a}} {
		if got := arena.Same(way[0], way[1]); got != want {
			t.Errorf("Same(%.80s, %.80s): %t", show(way[0]), show(way[1]), got)
		}
	}
}

// apart gives the same nodes in memory of their own.
func apart(l []api.Node) []api.Node {
	var all []api.Node
	for _, n := range l {
		all = append(all, api.Node{Name: strings.Clone(n.Name), Attrs: slices.Clone(n.Attrs), Text: strings.Clone(n.Text), Inner: apart(n.Inner)})
	}
	return all
}

// spoil changes all that lists have, up to their capacity.
func spoil(l []api.Node) {
	l = l[:cap(l)]
	for at := range l {
		spoil(l[at].Inner)
		spoilAttrs(l[at].Attrs)
		l[at] = api.Node{Name: "spoilt", Text: "spoilt", Attrs: of("spoilt=1"), Inner: []api.Node{text("spoilt")}}
	}
}

// spoilAttrs changes all that a list has, up to its capacity.
func spoilAttrs(l []api.Attr) {
	l = l[:cap(l)]
	for at := range l {
		l[at] = api.Attr{Name: "spoilt", Value: "spoilt"}
	}
}

// P12.2: the chapter's example.
func TestExample(t *testing.T) {
	a := arena.New()
	a.Text(0, "a")
	a.Text(0, "b")
	holds(t, a, 0, `"ab"`)
	is(t, "nodes", len(a.Nodes(0)), 1)
}

// P12.1: a new arena has the root, in which nothing stands, and which stands in none.
func TestNew(t *testing.T) {
	a := arena.New()
	holds(t, a, 0, "")
	is(t, "nodes", len(a.Nodes(0)), 0)
	named(t, a, 0, "", "")
	stands(t, a, 0, -1)
	is(t, "Copies", a.Copies(), 0)
}

// P12.1: the root's name and attributes are nothing, whatever stands in it, and it stands in none.
func TestRoot(t *testing.T) {
	a := arena.New()
	a.Text(0, "x")
	a.Append(0, a.Element("b", of("x=1")))
	a.Append(0, a.Copy(1))
	named(t, a, 0, "", "")
	stands(t, a, 0, -1)
	a.Move(0, a.Element("p", nil))
	named(t, a, 0, "", "")
	stands(t, a, 0, -1)
}

// P12.1: elements get the numbers from 1 on in the order in which they come about, copies among them, wherever they are put meanwhile.
func TestNumbers(t *testing.T) {
	a := arena.New()
	is(t, "the first", a.Element("b", nil), 1)
	is(t, "the second", a.Element("p", nil), 2)
	a.Append(0, 2)
	a.Text(2, "x")
	is(t, "a copy", a.Copy(1), 3)
	is(t, "one of the same name", a.Element("b", nil), 4)
	a.Move(0, 4)
	is(t, "a copy of the copy", a.Copy(3), 5)
	a.Append(5, 4)
	is(t, "one more", a.Element("i", of("a=1")), 6)
	for i, name := range []string{"", "b", "p", "b", "b", "b", "i"} {
		named(t, a, i, name, map[bool]string{true: `[a="1"]`}[i == 6])
	}
}

// P12.1: a new element stands in none, and nothing stands in it; it isn't in the root.
func TestElementStandsInNone(t *testing.T) {
	a := arena.New()
	for want := 1; want < 5; want++ {
		i := a.Element("b", of("x=1"))
		is(t, "the number", i, want)
		stands(t, a, i, -1)
		holds(t, a, i, "")
		holds(t, a, 0, "")
	}
}

// P12.1: names are told as they are.
func TestNames(t *testing.T) {
	names := []string{"b", "B", "h1", "x-y", " ", "\x00", "\xff", "\u00e9", "a b", "<b>", strings.Repeat("n", 1<<16)}
	a := some(names...)
	for at, name := range names {
		if got := a.Name(at + 1); got != name {
			t.Errorf("%.20q, not %.20q", got, name)
		}
		if got := a.Name(a.Copy(at + 1)); got != name {
			t.Errorf("of the copy %.20q, not %.20q", got, name)
		}
	}
}

// P12.1: attributes: none, one, many, the same name twice, in the order in which they were handed in.
func TestAttrs(t *testing.T) {
	var many []api.Attr
	for i := range 1000 {
		many = append(many, api.Attr{Name: "n" + strconv.Itoa(i*7%1000), Value: strconv.Itoa(i)})
	}
	for _, l := range [][]api.Attr{
		nil, {}, make([]api.Attr, 0, 3), of("a=1"), of("a"), of("="), of("=1"), of("a=1", "b=2"), of("b=2", "a=1"), of("z", "a", "m"),
		of("a=1", "a=2"), of("a=2", "a=1"), of("a=1", "a=1"), of("b=1", "a=1", "b=1"), of("A=1", "a=1"), of("a=\x00\xff", "\u00e9=\u20ac"), many,
	} {
		a := arena.New()
		i := a.Element("b", l)
		c := a.Copy(i)
		for _, n := range []int{i, c, a.Copy(c)} {
			if got := a.Attrs(n); !slices.Equal(got, l) {
				t.Errorf("Attrs(%d): %.80s, not %.80s", n, showAttrs(got), showAttrs(l))
			}
			a.Append(0, n)
		}
		for _, n := range a.Nodes(0) {
			if !slices.Equal(n.Attrs, l) {
				t.Errorf("Nodes: %.80s, not %.80s", showAttrs(n.Attrs), showAttrs(l))
			}
		}
		named(t, a, 0, "", "")
	}
}

// P12.1: a copy has the name and the attributes alone: it stands in none, and nothing stands in it, whatever stands in what was copied, which stays as it is.
func TestCopy(t *testing.T) {
	a := arena.New()
	a.Element("b", of("x=1", "y=2", "x=3"))
	a.Element("p", nil)
	a.Append(0, 1)
	a.Text(1, "in")
	a.Append(1, 2)
	c := a.Copy(1)
	is(t, "the copy", c, 3)
	named(t, a, c, "b", `[x="1"][y="2"][x="3"]`)
	stands(t, a, c, -1)
	holds(t, a, c, "")
	holds(t, a, 0, `b[x="1"][y="2"][x="3"]{"in" p}`)
	stands(t, a, 1, 0)
	stands(t, a, 2, 1)
	a.Append(2, c)
	d := a.Copy(c)
	is(t, "a copy of the copy", d, 4)
	named(t, a, d, "b", `[x="1"][y="2"][x="3"]`)
	stands(t, a, d, -1)
	a.Text(d, "own")
	holds(t, a, 0, `b[x="1"][y="2"][x="3"]{"in" p{b[x="1"][y="2"][x="3"]}}`)
	holds(t, a, d, `"own"`)
}

// P12.1: Copies counts each Copy, of elements and of copies, and nothing else.
func TestCopies(t *testing.T) {
	a := some("b", "i")
	is(t, "ahead of any", a.Copies(), 0)
	for want := 1; want <= 20; want++ {
		c := a.Copy(want)
		is(t, "Copies", a.Copies(), want)
		a.Append(0, c)
		a.Text(c, "x")
		a.Element("p", nil)
		a.Move(c, 1)
		a.Nodes(0)
		is(t, "Copies", a.Copies(), want)
	}
}

// P12.2: an element that stands in none goes behind all others.
func TestAppend(t *testing.T) {
	a := some("b", "p", "i", "u")
	a.Append(0, 1)
	holds(t, a, 0, `b`)
	stands(t, a, 1, 0)
	a.Append(0, 3)
	holds(t, a, 0, `b i`)
	a.Text(0, "x")
	a.Append(0, 2)
	holds(t, a, 0, `b i "x" p`)
	a.Append(3, 4)
	holds(t, a, 0, `b i{u} "x" p`)
	stands(t, a, 4, 3)
	stands(t, a, 3, 0)
}

// P12.2: an element that stands in another node stands there no longer; the others there keep their order.
func TestAppendFromElsewhere(t *testing.T) {
	for gone := range 5 {
		a := some("a", "b", "c", "d", "e", "p")
		a.Append(0, 6)
		a.Text(6, "first")
		for i := 1; i <= 5; i++ {
			a.Append(0, i)
		}
		a.Append(6, gone+1)
		left := []string{"p", "a", "b", "c", "d", "e"}
		left[0] = `p{"first" ` + left[gone+1] + `}`
		holds(t, a, 0, strings.Join(slices.Delete(left, gone+1, gone+2), " "))
		for i := 1; i <= 6; i++ {
			stands(t, a, i, map[bool]int{true: 6}[i == gone+1])
		}
	}
}

// P12.2: an element that stands in the node already goes behind all others there.
func TestAppendAgain(t *testing.T) {
	a := some("a", "b", "c")
	for i := 1; i <= 3; i++ {
		a.Append(0, i)
	}
	a.Text(0, "x")
	a.Append(0, 1)
	holds(t, a, 0, `b c "x" a`)
	a.Append(0, 1)
	holds(t, a, 0, `b c "x" a`)
	a.Append(0, 3)
	holds(t, a, 0, `b "x" a c`)
	a.Text(0, "y")
	holds(t, a, 0, `b "x" a c "y"`)
	for i := 1; i <= 3; i++ {
		stands(t, a, i, 0)
	}
}

// P12.2: all that stands in an element goes with it; it may be put where nothing is put anywhere yet, or one level up or down.
func TestAppendWithAll(t *testing.T) {
	a := some("a", "b", "c", "d")
	a.Append(1, 2)
	a.Text(2, "in")
	a.Append(2, 3)
	holds(t, a, 0, "")
	holds(t, a, 1, `b{"in" c}`)
	a.Append(4, 2)
	holds(t, a, 1, "")
	holds(t, a, 4, `b{"in" c}`)
	stands(t, a, 3, 2)
	a.Append(0, 4)
	holds(t, a, 0, `d{b{"in" c}}`)
	a.Append(0, 2)
	holds(t, a, 0, `d b{"in" c}`)
	a.Append(3, 4)
	holds(t, a, 0, `b{"in" c{d}}`)
	stands(t, a, 4, 3)
	stands(t, a, 2, 0)
}

// P12.2: a text that is nothing changes nothing, in whichever node.
func TestTextOfNothing(t *testing.T) {
	a := some("b")
	a.Append(0, 1)
	a.Text(1, "")
	is(t, "nodes in an empty one", len(a.Nodes(1)), 0)
	a.Text(0, "")
	holds(t, a, 0, `b`)
	a.Text(0, "x")
	a.Text(0, "")
	holds(t, a, 0, `b "x"`)
	a.Text(1, "")
	a.Append(1, a.Element("i", nil))
	a.Text(1, "")
	holds(t, a, 0, `b{i} "x"`)
}

// P12.2: a text where nothing stands, behind an element, and behind a text, which is one with it.
func TestText(t *testing.T) {
	a := some("b", "i")
	a.Text(0, "one")
	holds(t, a, 0, `"one"`)
	a.Append(0, 1)
	a.Text(0, "two")
	holds(t, a, 0, `"one" b "two"`)
	a.Text(0, "three")
	holds(t, a, 0, `"one" b "twothree"`)
	a.Text(0, " four")
	holds(t, a, 0, `"one" b "twothree four"`)
	a.Text(1, "in")
	a.Append(1, 2)
	a.Text(1, "\x00\xff\n\u20ac")
	holds(t, a, 1, `"in" i "\x00\xff\n€"`)
	holds(t, a, 0, `"one" b{"in" i "\x00\xff\n€"} "twothree four"`)
}

// P12.2: what stands last is asked: not what was put last, and no text further ahead.
func TestTextBehindWhatStandsLast(t *testing.T) {
	a := some("a", "b")
	a.Text(0, "one")
	a.Append(0, 1)
	a.Text(0, "two")
	a.Append(2, 1)
	holds(t, a, 0, `"one" "two"`)
	a.Text(0, "+")
	holds(t, a, 0, `"one" "two+"`)
	a.Append(0, 1)
	a.Text(0, "three")
	holds(t, a, 0, `"one" "two+" a "three"`)
	a.Append(0, 1)
	a.Text(0, "four")
	holds(t, a, 0, `"one" "two+" "three" a "four"`)
	b := some("a", "b")
	b.Text(0, "one")
	b.Append(0, 1)
	b.Append(2, 1)
	b.Text(0, "two")
	holds(t, b, 0, `"onetwo"`)
}

// P12.2: a text made of many pieces, in several nodes in turn.
func TestTextOfManyPieces(t *testing.T) {
	a := some("a", "b")
	want := [3]string{}
	for i := range 3000 {
		at := i * i % 3
		a.Text(at, strconv.Itoa(i)+" ")
		want[at] += strconv.Itoa(i) + " "
	}
	for at := range want {
		if want[at] == "" {
			is(t, "nodes", len(a.Nodes(at)), 0)
			continue
		}
		holds(t, a, at, strconv.Quote(want[at]))
	}
}

// P12.2: of nothing, into an empty node and into one with others.
func TestMoveNothing(t *testing.T) {
	a := some("a", "b")
	a.Move(1, 2)
	a.Move(0, 1)
	a.Text(2, "x")
	a.Append(0, 2)
	a.Move(1, 2)
	a.Move(1, 0)
	holds(t, a, 0, `b{"x"}`)
	holds(t, a, 1, "")
	stands(t, a, 1, -1)
	stands(t, a, 2, 0)
}

// P12.2: texts and elements go in order, into an empty node and behind others; nothing is left; where the nodes themselves stand stays.
func TestMove(t *testing.T) {
	a := some("a", "b", "c", "d", "e")
	a.Append(0, 1)
	a.Text(1, "x")
	a.Append(1, 3)
	a.Text(3, "deep")
	a.Append(3, 5)
	a.Append(1, 4)
	a.Text(1, "y")
	a.Move(1, 2)
	holds(t, a, 0, `a`)
	holds(t, a, 2, `"x" c{"deep" e} d "y"`)
	for i, parent := range []int{-1, 0, -1, 2, 2, 3} {
		stands(t, a, i, parent)
	}
	a.Text(1, "new")
	a.Append(1, a.Element("f", nil))
	a.Move(2, 1)
	holds(t, a, 0, `a{"new" f "x" c{"deep" e} d "y"}`)
	is(t, "nodes left", len(a.Nodes(2)), 0)
	for i, parent := range []int{-1, 0, -1, 1, 1, 3, 1} {
		stands(t, a, i, parent)
	}
}

// P12.2: two texts that meet stay two; one behind them goes on at what stands last.
func TestMoveTexts(t *testing.T) {
	a := some("a", "b")
	a.Text(1, "one")
	a.Text(2, "two")
	a.Move(1, 2)
	holds(t, a, 2, `"two" "one"`)
	a.Text(2, "+")
	holds(t, a, 2, `"two" "one+"`)
	a.Text(1, "three")
	holds(t, a, 1, `"three"`)
	holds(t, a, 2, `"two" "one+"`)
	a.Move(2, 1)
	a.Text(1, "!")
	a.Text(2, "four")
	holds(t, a, 1, `"three" "two" "one+!"`)
	holds(t, a, 2, `"four"`)
}

// P12.2: out of the root into an element that stands in none, and back.
func TestMoveFromRoot(t *testing.T) {
	a := some("a", "b", "c")
	a.Text(0, "x")
	a.Append(0, 1)
	a.Append(1, 2)
	a.Move(0, 3)
	holds(t, a, 0, "")
	holds(t, a, 3, `"x" a{b}`)
	for i, parent := range []int{-1, 3, 1, -1} {
		stands(t, a, i, parent)
	}
	a.Append(0, 3)
	a.Move(3, 0)
	holds(t, a, 0, `c "x" a{b}`)
	for i, parent := range []int{-1, 0, 1, 0} {
		stands(t, a, i, parent)
	}
}

// P12.2: out of a node into the one in which it stands, and into itself, where all stays as it is.
func TestMoveOutwards(t *testing.T) {
	a := some("a", "b", "c")
	a.Append(0, 1)
	a.Text(0, "y")
	a.Append(1, 2)
	a.Text(1, "x")
	a.Append(1, 3)
	a.Text(1, "z")
	for i := range 4 {
		a.Move(i, i)
		holds(t, a, 0, `a{b "x" c "z"} "y"`)
	}
	a.Text(1, "z")
	a.Move(1, 0)
	holds(t, a, 0, `a "y" b "x" c "zz"`)
	for i, parent := range []int{-1, 0, 0, 0} {
		stands(t, a, i, parent)
	}
}

// P12.2: the parents of the root, of elements in it, in others, and in none, as these change.
func TestParent(t *testing.T) {
	a := some("a", "b", "c", "d")
	for i := range 5 {
		stands(t, a, i, -1)
	}
	a.Append(0, 1)
	a.Append(1, 2)
	a.Append(4, 3)
	for i, parent := range []int{-1, 0, 1, 4, -1} {
		stands(t, a, i, parent)
	}
	a.Append(4, 1)
	for i, parent := range []int{-1, 4, 1, 4, -1} {
		stands(t, a, i, parent)
	}
}

// P12.3: a text has its Text alone; an element its Name, its Attrs and what stands in it.
func TestNodes(t *testing.T) {
	a := arena.New()
	a.Element("b", of("x=1", "y"))
	a.Element("i", nil)
	a.Text(0, "t")
	a.Append(0, 1)
	a.Append(1, 2)
	a.Text(1, "u")
	l := a.Nodes(0)
	is(t, "nodes", len(l), 2)
	if n := l[0]; n.Name != "" || len(n.Attrs) != 0 || n.Text != "t" || len(n.Inner) != 0 {
		t.Errorf("%+v", n)
	}
	if n := l[1]; n.Name != "b" || showAttrs(n.Attrs) != `[x="1"][y=""]` || n.Text != "" || len(n.Inner) != 2 {
		t.Errorf("%+v", n)
	}
	if n := l[1].Inner[0]; n.Name != "i" || len(n.Attrs) != 0 || n.Text != "" || len(n.Inner) != 0 {
		t.Errorf("%+v", n)
	}
	holds(t, a, 1, `i "u"`)
	holds(t, a, 2, "")
	is(t, "nodes in an empty one", len(a.Nodes(2)), 0)
}

// P12.3, P12.4: as many elements one within the other as the document bounds.
func TestDeep(t *testing.T) {
	for _, deep := range []int{1, 2, 1000, 5000, 1 << 16} {
		a := arena.New()
		for i := range deep {
			a.Text(i, "t")
			a.Append(i, a.Element("b", nil))
		}
		l := a.Nodes(0)
		counts(t, l, 2*deep, deep)
		same(t, l, a.Nodes(0), true)
		stands(t, a, deep, deep-1)
		a.Text(deep, "end")
		same(t, l, a.Nodes(0), false)
		counts(t, a.Nodes(0), 2*deep+1, deep+1)
		holds(t, a, deep, `"end"`)
		if got := show(a.Nodes(0)); got != strings.Repeat(`"t" b{`, deep)+`"end"`+strings.Repeat("}", deep) {
			t.Errorf("%d deep: %.80s", deep, got)
		}
	}
}

// P12.3, P12.4: many elements side by side, moved and put elsewhere one by one.
func TestWide(t *testing.T) {
	const wide = 5000
	a := arena.New()
	var want []string
	for i := range wide {
		a.Text(0, strconv.Itoa(i))
		a.Append(0, a.Element("b", nil))
		want = append(want, strconv.Quote(strconv.Itoa(i)), "b")
	}
	holds(t, a, 0, strings.Join(want, " "))
	counts(t, a.Nodes(0), 2*wide, 1)
	to := a.Element("p", nil)
	a.Move(0, to)
	holds(t, a, 0, "")
	holds(t, a, to, strings.Join(want, " "))
	for i := 1; i <= wide; i++ {
		stands(t, a, i, to)
		a.Append(0, i)
		stands(t, a, i, 0)
	}
	holds(t, a, 0, strings.TrimSpace(strings.Repeat("b ", wide)))
	is(t, "texts left", len(a.Nodes(to)), wide)
}

// distinct are lists of nodes no two of which are the same.
var distinct = [][]api.Node{
	nil,
	{text("a")},
	{text("b")},
	{text("A")},
	{text("")},
	{text("ab")},
	{text("a"), text("b")},
	{text("b"), text("a")},
	{text("a"), text("b"), text("c")},
	{text("a"), text("")},
	{element("a", nil)},
	{element("b", nil)},
	{element("A", nil)},
	{element("a", nil), element("a", nil)},
	{element("a", nil), element("b", nil)},
	{element("b", nil), element("a", nil)},
	{element("a", nil, element("b", nil))},
	{text("a"), element("a", nil)},
	{element("a", nil), text("a")},
	{element("a", nil, text("a"))},
	{element("a", nil, text("b"))},
	{element("a", nil, text("a"), text("b"))},
	{element("a", of("x=1"))},
	{element("a", of("x=2"))},
	{element("a", of("x"))},
	{element("a", of("y=1"))},
	{element("a", of("=1"))},
	{element("a", of("="))},
	{element("a", of("x=1", "y=1"))},
	{element("a", of("y=1", "x=1"))},
	{element("a", of("x=1", "x=1"))},
	{element("a", of("x=1", "x=2"))},
	{element("a", of("x=2", "x=1"))},
	{element("a", of("x=1"), text("a"))},
	{element("b", of("x=1"), text("a"))},
	{element("a", nil, element("b", of("x=1")))},
	{element("a", nil, element("b", nil, element("c", nil, element("d", nil))))},
	{element("a", nil, element("b", nil, element("c", nil, element("e", nil))))},
	{element("a", nil, element("b", nil, element("c", nil, element("d", of("x=1")))))},
	{element("a", nil, element("b", nil, element("c", nil, element("d", nil, text("t")))))},
	{element("a", nil, element("b", nil, element("c", nil, element("d", nil)))), text("t")},
	{element("a", nil, element("b", nil, element("c", nil, element("d", nil), text("t"))))},
	{element("a", nil, element("b", nil, element("c", nil, element("d", nil))), element("e", nil))},
	{{Text: "a", Inner: []api.Node{text("b")}}},
	{{Text: "a", Attrs: of("x=1")}},
	{{Name: "a", Text: "a"}},
	{{Name: "a", Text: "b"}},
}

// P12.4: each two of the lists, of which each one is the same as itself alone, also where it is in memory of its own.
func TestSame(t *testing.T) {
	for at, l := range distinct {
		for other, m := range distinct {
			same(t, l, m, at == other)
			same(t, l, apart(m), at == other)
			same(t, []api.Node{element("p", nil, l...), text("t")}, []api.Node{element("p", nil, apart(m)...), text("t")}, at == other)
			same(t, append(apart(l), text("t")), append(apart(m), text("t")), at == other)
		}
	}
}

// P12.4, K1: nothing is the same as nothing, whether it is nil or empty; so are attributes and inner nodes.
func TestSameOfNothing(t *testing.T) {
	for _, l := range [][]api.Node{nil, {}, make([]api.Node, 0, 3), distinct[5][:0]} {
		same(t, nil, l, true)
		same(t, []api.Node{}, l, true)
		same(t, l, []api.Node{text("")}, false)
		same(t, l, []api.Node{element("b", nil)}, false)
		same(t, []api.Node{{Name: "b", Inner: l}}, []api.Node{{Name: "b", Attrs: []api.Attr{}}}, true)
		same(t, []api.Node{{Text: "b", Attrs: []api.Attr{}, Inner: l}}, []api.Node{{Text: "b"}}, true)
	}
}

// P12.4: how many nodes there are, and how deep they lie.
func TestCount(t *testing.T) {
	counts(t, nil, 0, 0)
	counts(t, []api.Node{}, 0, 0)
	counts(t, make([]api.Node, 0, 3), 0, 0)
	counts(t, []api.Node{text("a")}, 1, 1)
	counts(t, []api.Node{text("a"), text("b"), text("")}, 3, 1)
	counts(t, []api.Node{element("a", of("x=1", "y=2"))}, 1, 1)
	counts(t, []api.Node{element("a", nil), text("t"), element("b", nil)}, 3, 1)
	counts(t, []api.Node{element("a", nil, element("b", nil))}, 2, 2)
	counts(t, []api.Node{element("a", nil, text("t"))}, 2, 2)
	counts(t, []api.Node{element("a", nil, element("b", nil, element("c", nil, text("t"))))}, 4, 4)
	counts(t, []api.Node{element("a", nil, element("b", nil, text("t"))), element("c", nil)}, 4, 3)
	counts(t, []api.Node{element("c", nil), element("a", nil, element("b", nil, text("t"))), text("u")}, 5, 3)
	counts(t, []api.Node{element("a", nil, text("t"), element("b", nil), text("u"), element("c", nil, text("v"), text("w")))}, 7, 3)
	counts(t, []api.Node{element("a", nil, element("b", nil)), element("c", nil, element("d", nil, element("e", nil))), element("f", nil)}, 6, 3)
	counts(t, []api.Node{{Text: "a", Inner: []api.Node{text("b")}}}, 2, 2)
}

// P12.4, K5: what is asked stays as it was.
func TestAskedStays(t *testing.T) {
	for _, l := range distinct {
		before := show(l)
		arena.Same(l, distinct[0])
		arena.Same(l, l)
		arena.Count(l)
		if got := show(l); got != before {
			t.Errorf("%s, not %s", got, before)
		}
	}
}

// K5: attributes that are handed in are neither changed nor kept, and what their caller does with them later changes no answer.
func TestHandedInIsNotKept(t *testing.T) {
	memory := of("x=1", "y=2", "behind=1", "behind=2")
	before := slices.Clone(memory)
	a := arena.New()
	a.Element("b", memory[:2])
	a.Append(0, 1)
	a.Append(0, a.Copy(1))
	if !slices.Equal(memory, before) {
		t.Errorf("handed in: %s", showAttrs(memory))
	}
	l := a.Nodes(0)
	spoilAttrs(memory)
	for i := 1; i <= 2; i++ {
		named(t, a, i, "b", `[x="1"][y="2"]`)
	}
	named(t, a, a.Copy(1), "b", `[x="1"][y="2"]`)
	holds(t, a, 0, `b[x="1"][y="2"] b[x="1"][y="2"]`)
	if got := show(l); got != `b[x="1"][y="2"] b[x="1"][y="2"]` {
		t.Errorf("answered ahead of the change: %s", got)
	}
}

// K5: what was answered and is changed, or made longer, changes no later answer, no other one, and nothing in the arena; an element and its copy share nothing.
func TestAnswersAreNew(t *testing.T) {
	a := arena.New()
	a.Element("b", of("x=1", "y=2"))
	a.Append(0, 1)
	a.Append(1, a.Element("p", of("z=3")))
	a.Text(2, "t")
	a.Append(1, a.Copy(1))
	a.Text(0, "u")
	const want = `b[x="1"][y="2"]{p[z="3"]{"t"} b[x="1"][y="2"]} "u"`
	one, two, inner := a.Nodes(0), a.Nodes(0), a.Nodes(1)
	own, again, copied := a.Attrs(1), a.Attrs(1), a.Attrs(3)
	spoilAttrs(own)
	spoil(one)
	_ = append(one[:0], text("more"), text("more"))
	_ = append(own, of("more=1")...)
	if got := show(two); got != want {
		t.Errorf("another answer: %s", got)
	}
	if got := show(inner); got != `p[z="3"]{"t"} b[x="1"][y="2"]` {
		t.Errorf("an inner answer: %s", got)
	}
	for _, l := range [][]api.Attr{again, copied} {
		if got := showAttrs(l); got != `[x="1"][y="2"]` {
			t.Errorf("other attributes: %s", got)
		}
	}
	holds(t, a, 0, want)
	named(t, a, 1, "b", `[x="1"][y="2"]`)
	named(t, a, 3, "b", `[x="1"][y="2"]`)
	spoilAttrs(copied)
	named(t, a, 1, "b", `[x="1"][y="2"]`)
	named(t, a, a.Copy(3), "b", `[x="1"][y="2"]`)
	holds(t, a, 0, want)
}

// K5: no two lists of one answer share memory, also where the nodes are alike.
func TestListsOfOneAnswer(t *testing.T) {
	a := arena.New()
	a.Element("b", of("x=1"))
	a.Append(0, 1)
	for range 3 {
		c := a.Copy(1)
		a.Append(0, c)
		a.Text(c, "t")
		a.Append(c, a.Copy(c))
	}
	l := a.Nodes(0)
	spoil(l[1].Inner)
	spoilAttrs(l[2].Attrs)
	spoilAttrs(l[3].Inner[1].Attrs)
	_ = append(l[2].Inner, text("more"))
	const whole = `{"t" b[x="1"]}`
	for at, want := range []string{`b[x="1"]`, "", `b[spoilt="spoilt"]` + whole, `b[x="1"]{"t" b[spoilt="spoilt"]}`} {
		if got := show(l[at : at+1]); at != 1 && got != want {
			t.Errorf("%d: %s, not %s", at, got, want)
		}
	}
	if got := showAttrs(l[1].Attrs); got != `[x="1"]` {
		t.Errorf("1: %s", got)
	}
	holds(t, a, 0, `b[x="1"]`+strings.Repeat(` b[x="1"]`+whole, 3))
}

// K5: what was answered stays, whatever becomes of the arena.
func TestAnswersStay(t *testing.T) {
	a := some("b", "p")
	a.Append(0, 1)
	a.Text(1, "t")
	a.Text(0, "u")
	l := a.Nodes(0)
	a.Text(0, "+")
	a.Text(1, "+")
	a.Append(1, 2)
	a.Move(0, a.Element("i", nil))
	a.Text(0, "new")
	if got := show(l); got != `b{"t"} "u"` {
		t.Errorf("%s", got)
	}
}

// K6: two arenas don't touch each other, nor do those of several callers at once.
func TestTwoArenas(t *testing.T) {
	a, b := some("a", "b"), arena.New()
	a.Append(0, 1)
	a.Text(1, "x")
	a.Copy(1)
	holds(t, b, 0, "")
	is(t, "Copies", b.Copies(), 0)
	is(t, "the first", b.Element("p", of("x=1")), 1)
	b.Append(0, 1)
	b.Text(1, "y")
	a.Move(0, 2)
	named(t, a, 1, "a", "")
	named(t, b, 1, "p", `[x="1"]`)
	holds(t, b, 0, `p[x="1"]{"y"}`)
	holds(t, a, 2, `a{"x"}`)
	var group sync.WaitGroup
	for range 8 {
		group.Go(func() {
			own := arena.New()
			for i := range 300 {
				own.Text(i, "t")
				own.Append(i, own.Element("b", nil))
			}
			holds(t, own, 0, strings.Repeat(`"t" b{`, 299)+`"t" b`+strings.Repeat("}", 299))
		})
	}
	group.Wait()
}

// K6: the same call answers the same each time, and to ask changes nothing.
func TestSameAgain(t *testing.T) {
	a := some("b", "p")
	a.Append(0, 1)
	a.Text(1, "t")
	a.Append(1, 2)
	for range 3 {
		holds(t, a, 0, `b{"t" p}`)
		holds(t, a, 1, `"t" p`)
		stands(t, a, 0, -1)
		stands(t, a, 2, 1)
		named(t, a, 2, "p", "")
		is(t, "Copies", a.Copies(), 0)
		same(t, a.Nodes(0), a.Nodes(0), true)
		counts(t, a.Nodes(0), 3, 2)
	}
}

// K7: numbers that no node has, the root where an element is asked for, and nodes put into what stands in them are none that the chapter hands in: no call panics, each ends, and nothing changes.
func TestOtherNumbers(t *testing.T) {
	a := some("a", "b", "c")
	a.Append(0, 1)
	a.Text(1, "t")
	a.Append(1, 2)
	a.Append(2, 3)
	for _, i := range []int{-1, -2, 4, 5, 1 << 32, math.MaxInt, math.MinInt} {
		named(t, a, i, "", "")
		stands(t, a, i, -1)
		is(t, "nodes", len(a.Nodes(i)), 0)
		is(t, "a copy", a.Copy(i), 0)
		a.Text(i, "x")
		for n := range 4 {
			a.Append(i, n)
			a.Append(n, i)
			a.Move(i, n)
			a.Move(n, i)
		}
		a.Move(i, i)
		a.Append(i, i)
	}
	is(t, "a copy of the root", a.Copy(0), 0)
	for n := range 4 {
		a.Append(n, 0)
		for inner := n; inner < 4; inner++ {
			a.Append(inner, n)
			a.Move(n, inner)
		}
	}
	is(t, "Copies", a.Copies(), 0)
	holds(t, a, 0, `a{"t" b{c}}`)
	is(t, "the next one", a.Element("d", nil), 4)
}
