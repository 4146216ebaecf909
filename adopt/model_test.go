package adopt_test

import (
	"math/rand/v2"
	"slices"
	"strconv"
	"strings"
	"testing"

	"decanter/adopt"
	"decanter/api"
	"decanter/arena"
	"decanter/list"
	"decanter/stack"
)

// The chapter's kinds that Again asks for, name by name (layer 11).
const (
	scopeNames   = "applet marquee object table template"
	specialNames = "address applet area article aside base basefont bgsound blockquote br button center dd details dir div dl dt embed fieldset figcaption figure footer form h1 h2 h3 h4 h5 h6 header hgroup hr iframe img input keygen li link listing main marquee menu meta nav noembed noframes object ol p param plaintext pre script section select source style summary table template textarea title track ul wbr xmp"
	formatNames  = "a b big code em font i nobr s small strike strong tt u"
)

// one is a node of the model: the root, an element or a text, tied to what it stands in and to what stands in it.
type one struct {
	number int // of an element
	name   string
	attrs  []api.Attr
	text   string
	out    *one
	inner  []*one
}

// put puts a node behind all that stands in another one.
func (n *one) put(inner *one) {
	if inner.out != nil {
		inner.out.inner = slices.DeleteFunc(inner.out.inner, func(other *one) bool { return other == inner })
	}
	inner.out = n
	n.inner = append(n.inner, inner)
}

// nodes gives what stands in a node.
func (n *one) nodes() []api.Node {
	var all []api.Node
	for _, inner := range n.inner {
		all = append(all, api.Node{Name: inner.name, Attrs: inner.attrs, Text: inner.text, Inner: inner.nodes()})
	}
	return all
}

// entry is an entry of the model's list: an element, a mark, or the bookmark, which is an entry of its own there, and moves as others do.
type entry struct {
	element  *one
	bookmark bool
}

// page is an arena, a stack and a list by the chapters' words.
type page struct {
	root     *one
	elements []*one
	open     []*one
	listed   []entry
	copies   int
}

// element gives a new element.
func (p *page) element(name string, attrs []api.Attr) *one {
	n := &one{number: len(p.elements) + 1, name: name, attrs: attrs}
	p.elements = append(p.elements, n)
	return n
}

// copied gives a new element with another one's name and attributes.
func (p *page) copied(n *one) *one {
	p.copies++
	return p.element(n.name, n.attrs)
}

// of gives the node of a number.
func (p *page) of(number int) *one {
	if number == 0 {
		return p.root
	}
	return p.elements[number-1]
}

// isOpen tells whether an element is open.
func (p *page) isOpen(n *one) bool { return slices.Contains(p.open, n) }

// isListed tells whether an element is in the list.
func (p *page) isListed(n *one) bool { return slices.Contains(p.listed, entry{element: n}) }

// last gives the last element of a name behind the last mark.
func (p *page) last(name string) *one {
	for _, own := range slices.Backward(p.listed) {
		switch {
		case own == entry{}:
			return nil
		case own.element != nil && own.element.name == name:
			return own.element
		}
	}
	return nil
}

// instead gives a row with others in place of one of its own.
func instead[T comparable](row []T, own T, by ...T) []T {
	at := slices.Index(row, own)
	return slices.Concat(row[:at], by, row[at+1:])
}

// again is the chapter's Again.
func (p *page) again(name string) bool {
	if many := len(p.open); many > 0 && p.open[many-1].name == name && !p.isListed(p.open[many-1]) {
		p.open = p.open[:many-1]
		return true
	}
	return p.turns(name, 8)
}

// turns does the chapter's second step as many times, at most.
func (p *page) turns(name string, left int) bool {
	if left == 0 {
		return true
	}
	f := p.last(name)
	if f == nil {
		return false
	}
	if !p.isOpen(f) {
		p.listed = instead(p.listed, entry{element: f})
		return true
	}
	at := slices.Index(p.open, f)
	block := at
	for place := len(p.open) - 1; place > at; place-- {
		if slices.Contains(words(scopeNames), p.open[place].name) {
			return true
		}
		if slices.Contains(words(specialNames), p.open[place].name) {
			block = place
		}
	}
	if block == at {
		p.open = p.open[:at]
		p.listed = instead(p.listed, entry{element: f})
		return true
	}
	p.turn(at, block)
	return p.turns(name, left-1)
}

// turn does the second step from its fifth one on, of the elements F and B at two places.
func (p *page) turn(at, block int) {
	f, b, c := p.open[at], p.open[block], p.root
	if at > 0 {
		c = p.open[at-1]
	}
	mark := entry{bookmark: true}
	p.listed = instead(p.listed, entry{element: f}, mark, entry{element: f})
	last := b
	between := slices.Clone(p.open[at+1 : block])
	slices.Reverse(between)
	for count, n := range between {
		own := entry{element: n}
		if count >= 3 && p.isListed(n) {
			p.listed = instead(p.listed, own)
		}
		if !p.isListed(n) {
			p.open = instead(p.open, n)
			continue
		}
		again := p.copied(n)
		p.open = instead(p.open, n, again)
		if last == b {
			p.listed = instead(p.listed, mark)
			p.listed = instead(p.listed, own, entry{element: again}, mark)
		} else {
			p.listed = instead(p.listed, own, entry{element: again})
		}
		again.put(last)
		last = again
	}
	c.put(last)
	again := p.copied(f)
	for _, inner := range slices.Clone(b.inner) {
		again.put(inner)
	}
	b.put(again)
	p.listed = instead(p.listed, entry{element: f})
	p.listed = instead(p.listed, mark, entry{element: again})
	p.open = instead(p.open, f)
	p.open = instead(p.open, b, b, again)
}

// words gives a text's words.
func words(s string) []string { return strings.Fields(s) }

// scene is what Again is handed in, and a model of that, to which the same is done.
type scene struct {
	a *arena.Arena
	s *stack.Stack
	l *list.List
	p *page
}

// empty gives a scene without elements.
func empty() *scene {
	a := arena.New()
	return &scene{a, stack.New(a), list.New(a), &page{root: &one{}}}
}

// element makes an element of a name, with attributes behind that: b/x=1/y.
func (c *scene) element(written string) int {
	name, rest, _ := strings.Cut(written, "/")
	var attrs []api.Attr
	for _, word := range strings.FieldsFunc(rest, func(r rune) bool { return r == '/' }) {
		name, value, _ := strings.Cut(word, "=")
		attrs = append(attrs, api.Attr{Name: name, Value: value})
	}
	c.p.element(name, attrs)
	return c.a.Element(name, attrs)
}

// put puts an element behind all that stands in a node.
func (c *scene) put(in, i int) {
	c.a.Append(in, i)
	c.p.of(in).put(c.p.of(i))
}

// text puts a text behind all that stands in a node.
func (c *scene) text(in int, s string) {
	c.a.Text(in, s)
	n := c.p.of(in)
	if many := len(n.inner); many > 0 && n.inner[many-1].name == "" {
		n.inner[many-1].text += s
		return
	}
	n.put(&one{text: s})
}

// push opens an element.
func (c *scene) push(i int) {
	c.s.Push(i)
	c.p.open = append(c.p.open, c.p.of(i))
}

// list puts an element behind all others in the list, however many are alike, or a mark.
func (c *scene) list(i int) {
	if i == list.Mark {
		c.l.Mark()
		c.p.listed = append(c.p.listed, entry{})
		return
	}
	c.l.Insert(len(c.p.listed), i)
	c.p.listed = append(c.p.listed, entry{element: c.p.of(i)})
}

// set gives a scene of words. Each name is an element, in the one ahead of it, and open; (b is one that isn't open; -b is one that stands in none, and isn't open; 'x is a text; ) tells that what is behind it stands one further out. What is listed is told by numbers, with a | for a mark.
func set(open, listed string) *scene {
	c := empty()
	in := 0
	for _, word := range words(open) {
		switch name, closed := strings.CutPrefix(word, "("); {
		case word == ")":
			in = c.a.Parent(in)
		case word[0] == '\'':
			c.text(in, word[1:])
		case word[0] == '-':
			c.element(word[1:])
		default:
			i := c.element(name)
			c.put(in, i)
			in = i
			if !closed {
				c.push(i)
			}
		}
	}
	for _, word := range words(listed) {
		i, err := strconv.Atoi(word)
		if err != nil {
			i = list.Mark
		}
		c.list(i)
	}
	return c
}

// show writes nodes out: texts behind a ', elements by their names, with their attributes, and what stands in them in brackets.
func show(l []api.Node) string {
	var all []string
	for _, n := range l {
		s := n.Name
		for _, own := range n.Attrs {
			s += "/" + own.Name
			if own.Value != "" {
				s += "=" + own.Value
			}
		}
		if n.Name == "" || n.Text != "" {
			s += "'" + n.Text
		}
		if len(n.Inner) > 0 {
			s += "(" + show(n.Inner) + ")"
		}
		all = append(all, s)
	}
	return strings.Join(all, " ")
}

// numbers writes numbers out, a mark as |.
func numbers(l []int) string {
	var all []string
	for _, i := range l {
		if i == list.Mark {
			all = append(all, "|")
		} else {
			all = append(all, strconv.Itoa(i))
		}
	}
	return strings.Join(all, " ")
}

// openElements and listedEntries give the model's numbers.
func (p *page) openElements() []int {
	var all []int
	for _, n := range p.open {
		all = append(all, n.number)
	}
	return all
}

func (p *page) listedEntries() []int {
	var all []int
	for _, own := range p.listed {
		if own.element == nil {
			all = append(all, list.Mark)
		} else {
			all = append(all, own.element.number)
		}
	}
	return all
}

// check holds all that the three objects tell against the model.
func (c *scene) check(t *testing.T) {
	t.Helper()
	if got, want := c.s.All(), c.p.openElements(); !slices.Equal(got, want) {
		t.Errorf("open: %s, not %s", numbers(got), numbers(want))
	}
	if got, want := c.l.All(), c.p.listedEntries(); !slices.Equal(got, want) {
		t.Errorf("listed: %s, not %s", numbers(got), numbers(want))
	}
	if got := c.a.Copies(); got != c.p.copies {
		t.Errorf("copies: %d, not %d", got, c.p.copies)
	}
	if got, want := c.a.Nodes(0), c.p.root.nodes(); !arena.Same(got, want) {
		t.Errorf("nodes: %s, not %s", show(got), show(want))
	}
	for _, n := range c.p.elements {
		c.checkElement(t, n)
	}
	// One more would be that number's element.
	if name := c.a.Name(len(c.p.elements) + 1); name != "" {
		t.Errorf("there is one more: %s", name)
	}
}

// checkElement holds all that the arena tells of one element against the model, whether it stands anywhere or not.
func (c *scene) checkElement(t *testing.T, n *one) {
	t.Helper()
	if got := c.a.Name(n.number); got != n.name {
		t.Errorf("%d: %q, not %q", n.number, got, n.name)
	}
	if got := c.a.Attrs(n.number); !slices.Equal(got, n.attrs) {
		t.Errorf("%d: %v, not %v", n.number, got, n.attrs)
	}
	parent := -1
	if n.out != nil {
		parent = n.out.number
	}
	if got := c.a.Parent(n.number); got != parent {
		t.Errorf("%d stands in %d, not in %d", n.number, got, parent)
	}
	if n.out == nil {
		if got, want := c.a.Nodes(n.number), n.nodes(); !arena.Same(got, want) {
			t.Errorf("%d: %s, not %s", n.number, show(got), show(want))
		}
	}
}

// again does it in both, and holds all that is told then against the model.
func (c *scene) again(t *testing.T, name string) bool {
	t.Helper()
	want := c.p.again(name)
	if got := adopt.Again(c.a, c.s, c.l, name); got != want {
		t.Errorf("Again of %q: %t", name, got)
	}
	c.check(t)
	return want
}

// rowsOf gives all rows of some words, up to a length.
func rowsOf(pool []string, most int) [][]string {
	all := [][]string{nil}
	for at := 0; at < len(all); at++ {
		if len(all[at]) < most {
			for _, word := range pool {
				all = append(all, append(slices.Clip(all[at]), word))
			}
		}
	}
	return all
}

// orders gives all rows of numbers, each once at most.
func orders(pool []string) [][]string {
	all := [][]string{nil}
	for at := 0; at < len(all); at++ {
		for _, word := range pool {
			if !slices.Contains(all[at], word) {
				all = append(all, append(slices.Clip(all[at]), word))
			}
		}
	}
	return all
}

// formats gives the numbers of those of some elements that have names of the kind Format.
func formats(names []string) []string {
	var all []string
	for at, name := range names {
		if slices.Contains(words(formatNames), name) {
			all = append(all, strconv.Itoa(at+1))
		}
	}
	return all
}

// P15.1: all short stacks, with all lists of their elements, by the model; texts stand in each element.
func TestShortStacks(t *testing.T) {
	for _, names := range rowsOf(words("b i p table span"), 5) {
		open := ""
		for at, name := range names {
			open += name + " '" + strconv.Itoa(at+1) + " "
		}
		listed := formats(names)
		if len(listed) > 3 {
			continue
		}
		for _, order := range orders(listed) {
			for _, name := range words("b i p") {
				c := set(open, strings.Join(order, " "))
				c.again(t, name)
				if t.Failed() {
					t.Fatal(open, order, name)
				}
			}
		}
	}
}

// P15.1: all short lists, with marks at all places, and with elements that aren't open, by the model.
func TestShortLists(t *testing.T) {
	for _, open := range []string{"b p", "b i p", "p b i p", "b b i p", "(b ) b i p", "b (i ) i p", "i b p b", "-b b i p u p", "b table i b p"} {
		var names []string
		for _, word := range words(open) {
			if word != ")" {
				names = append(names, strings.TrimLeft(word, "(-"))
			}
		}
		for _, order := range orders(append(formats(names), "|", "||")) {
			listed := strings.ReplaceAll(strings.Join(order, " "), "||", "|")
			for _, name := range words("b i") {
				c := set(open, listed)
				c.again(t, name)
				c.again(t, name)
				if t.Failed() {
					t.Fatal(open, listed, name)
				}
			}
		}
	}
}

// P15.1: up to six elements between F and B, each in the list or not, or none that may be; the list in the stack's order, in the other one, with F in front, behind and in the middle, and with a mark.
func TestBetween(t *testing.T) {
	for _, sorts := range rowsOf(words("i* i span"), 6) {
		open := "div b 'f "
		var inside []string
		for at, sort := range sorts {
			name, listed := strings.CutSuffix(sort, "*")
			open += name + " '" + strconv.Itoa(at) + " "
			if listed {
				inside = append(inside, strconv.Itoa(at+3))
			}
		}
		open += "p 'p u 'u"
		for range 2 {
			for at := range len(inside) + 1 {
				listed := strings.Join(slices.Insert(slices.Clone(inside), at, "2"), " ")
				for _, listed := range []string{listed, "| " + listed, strings.Replace(listed, "2", "| 2", 1)} {
					c := set(open, listed)
					c.again(t, "b")
					if t.Failed() {
						t.Fatal(open, listed)
					}
				}
			}
			slices.Reverse(inside)
		}
	}
}

// step does to a scene what a builder might do, or what only these tests do.
func (c *scene) step(t *testing.T, random *rand.Rand) {
	t.Helper()
	top := 0
	if many := len(c.p.open); many > 0 {
		top = c.p.open[many-1].number
	}
	pool := words("b b b i i a/x=1 a/x=2 u em p p div div span label button table")
	switch choice := random.IntN(20); {
	case choice < 9:
		i := c.element(pool[random.IntN(len(pool))])
		c.put(top, i)
		c.push(i)
		if slices.Contains(words(formatNames), c.a.Name(i)) && random.IntN(5) > 0 {
			c.list(i)
		}
	case choice < 11:
		c.text(top, words("x y z")[random.IntN(3)])
	case choice < 12:
		if _, ok := c.s.Pop(); ok {
			c.p.open = c.p.open[:len(c.p.open)-1]
		}
	case choice < 13 && random.IntN(3) == 0:
		c.list(list.Mark)
	case choice < 14 && random.IntN(3) == 0:
		c.clear()
	case choice < 15:
		c.insert(random)
	case choice > 16:
		c.again(t, words("b b i a u em p span")[random.IntN(8)])
	}
}

// clear takes out what is behind the list's last mark, and that.
func (c *scene) clear() {
	c.l.Clear()
	at := len(c.p.listed) - 1
	for at >= 0 && c.p.listed[at] != (entry{}) {
		at--
	}
	c.p.listed = c.p.listed[:max(at, 0)]
}

// insert puts an element that is open, or was, anywhere into the list, if it isn't there.
func (c *scene) insert(random *rand.Rand) {
	if len(c.p.elements) == 0 {
		return
	}
	n := c.p.elements[random.IntN(len(c.p.elements))]
	if c.p.isListed(n) || !slices.Contains(words(formatNames), n.name) {
		return
	}
	place := random.IntN(len(c.p.listed) + 1)
	c.l.Insert(place, n.number)
	c.p.listed = slices.Insert(c.p.listed, place, entry{element: n})
}

// P15.1: long rows of steps, always the same ones, by the model; two scenes take turns.
func TestLongRows(t *testing.T) {
	random := rand.New(rand.NewPCG(15, 50))
	for range 400 {
		scenes := []*scene{empty(), empty()}
		for range 120 {
			scenes[random.IntN(2)].step(t, random)
		}
		for _, c := range scenes {
			c.check(t)
		}
		if t.Failed() {
			t.FailNow()
		}
	}
}
