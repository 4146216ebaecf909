package arena_test

import (
	"math/rand/v2"
	"slices"
	"strconv"
	"testing"

	"decanter/api"
	"decanter/arena"
)

// thing is what stands somewhere: an element, or, with the number 0, a text.
type thing struct {
	in, element int
	text        string
}

// model is an arena by the chapter's words: all that stands anywhere, in one list, in the order in which it came there.
type model struct {
	things []thing
	names  []string
	attrs  [][]api.Attr
	copies int
}

// newModel gives a model that has the root alone.
func newModel() *model { return &model{names: []string{""}, attrs: [][]api.Attr{nil}} }

// element gives the number of a new element.
func (m *model) element(name string, attrs []api.Attr) int {
	m.names, m.attrs = append(m.names, name), append(m.attrs, attrs)
	return len(m.names) - 1
}

// parent gives the node in which one stands.
func (m *model) parent(i int) int {
	for _, x := range m.things {
		if i > 0 && x.element == i {
			return x.in
		}
	}
	return -1
}

// within tells whether a node is another one or stands somewhere in it.
func (m *model) within(i, outer int) bool {
	return i == outer || i >= 0 && m.within(m.parent(i), outer)
}

// append puts an element behind all that stands in a node.
func (m *model) append(parent, i int) {
	m.things = slices.DeleteFunc(m.things, func(x thing) bool { return x.element == i })
	m.things = append(m.things, thing{in: parent, element: i})
}

// text puts a text behind all that stands in a node.
func (m *model) text(parent int, s string) {
	last := -1
	for at, x := range m.things {
		if x.in == parent {
			last = at
		}
	}
	switch {
	case s == "":
	case last >= 0 && m.things[last].element == 0:
		m.things[last].text += s
	default:
		m.things = append(m.things, thing{in: parent, text: s})
	}
}

// move puts all that stands in a node behind all that stands in another one.
func (m *model) move(from, to int) {
	var stay, gone []thing
	for _, x := range m.things {
		if x.in == from {
			x.in = to
			gone = append(gone, x)
			continue
		}
		stay = append(stay, x)
	}
	m.things = append(stay, gone...)
}

// nodes gives what stands in a node.
func (m *model) nodes(i int) []api.Node {
	var all []api.Node
	for _, x := range m.things {
		switch {
		case x.in != i:
		case x.element == 0:
			all = append(all, api.Node{Text: x.text})
		default:
			all = append(all, api.Node{Name: m.names[x.element], Attrs: m.attrs[x.element], Inner: m.nodes(x.element)})
		}
	}
	return all
}

// step is a call that changes an arena.
type step struct {
	call string
	x, y int
	s    string
}

// pair is an arena and its model, to which the same is done.
type pair struct {
	a *arena.Arena
	m *model
}

// newPair gives an arena with three elements, and its model.
func newPair() pair {
	p := pair{arena.New(), newModel()}
	for i, attrs := range [][]api.Attr{nil, of("x=1"), of("y=2", "x=1")} {
		name := string(rune('a' + i))
		p.a.Element(name, attrs)
		p.m.element(name, attrs)
	}
	return p
}

// allowed tells whether the chapter lets a step be.
func (p pair) allowed(s step) bool {
	switch s.call {
	case "Append":
		return !p.m.within(s.x, s.y)
	case "Move":
		return s.x == s.y || !p.m.within(s.y, s.x)
	}
	return true
}

// do takes a step in both.
func (p pair) do(t *testing.T, s step) {
	t.Helper()
	switch s.call {
	case "Append":
		p.a.Append(s.x, s.y)
		p.m.append(s.x, s.y)
	case "Text":
		p.a.Text(s.x, s.s)
		p.m.text(s.x, s.s)
	case "Move":
		p.a.Move(s.x, s.y)
		p.m.move(s.x, s.y)
	case "Copy":
		is(t, "Copy", p.a.Copy(s.x), p.m.element(p.m.names[s.x], p.m.attrs[s.x]))
		p.m.copies++
	}
}

// check holds all that an arena answers against its model, and tells whether it is the same.
func (p pair) check(t *testing.T) bool {
	t.Helper()
	for i := range p.m.names {
		l := p.m.nodes(i)
		holds(t, p.a, i, show(l))
		same(t, p.a.Nodes(i), l, true)
		stands(t, p.a, i, p.m.parent(i))
		named(t, p.a, i, p.m.names[i], showAttrs(p.m.attrs[i]))
	}
	is(t, "Copies", p.a.Copies(), p.m.copies)
	return !t.Failed()
}

// steps are all steps of which the model lets each one be, of nodes up to a number.
func steps(most int) []step {
	var all []step
	for x := range most + 1 {
		all = append(all, step{"Text", x, 0, "t"}, step{"Text", x, 0, ""})
		for y := range most + 1 {
			all = append(all, step{"Move", x, y, ""})
			if y > 0 {
				all = append(all, step{"Append", x, y, ""})
			}
		}
		if x > 0 {
			all = append(all, step{"Copy", x, 0, ""})
		}
	}
	return all
}

// run takes steps from a start on, and tells whether all of them may be, and whether the arena is as its model is.
func run(t *testing.T, all []step) (may, right bool) {
	t.Helper()
	p := newPair()
	for _, s := range all {
		if !p.allowed(s) {
			return false, true
		}
		p.do(t, s)
	}
	return true, p.check(t)
}

// P12.1 to P12.3: all short rows of steps, from several starts on, by the model.
func TestShortRows(t *testing.T) {
	for _, start := range [][]step{
		{},
		{{"Append", 0, 1, ""}, {"Text", 0, 0, "u"}, {"Append", 0, 2, ""}, {"Text", 2, 0, "v"}},
		{{"Text", 1, 0, "u"}, {"Append", 1, 2, ""}, {"Text", 1, 0, "v"}, {"Append", 2, 3, ""}, {"Text", 3, 0, "w"}, {"Append", 0, 1, ""}},
		{{"Text", 0, 0, "u"}, {"Append", 0, 3, ""}, {"Text", 0, 0, "v"}, {"Append", 0, 1, ""}, {"Append", 0, 2, ""}, {"Text", 0, 0, "w"}},
	} {
		var grow func(all []step, left int)
		grow = func(all []step, left int) {
			may, right := run(t, all)
			if !right {
				t.Fatal(all)
			}
			if !may || left == 0 {
				return
			}
			for _, s := range steps(3) {
				grow(append(slices.Clip(all), s), left-1)
			}
		}
		grow(start, 3)
	}
}

// P12.1 to P12.4: long rows of steps, always the same ones, by the model; and a few lists of nodes held against each other.
func TestLongRows(t *testing.T) {
	random := rand.New(rand.NewPCG(12, 34))
	for row := range 100 {
		p := newPair()
		for at := range 120 {
			most := len(p.m.names) - 1
			s := step{"Text", random.IntN(most + 1), 1 + random.IntN(most), strconv.Itoa(at % 7)}
			s.call = []string{"Text", "Append", "Append", "Append", "Move", "Copy"}[random.IntN(6)]
			if s.call == "Copy" && (s.x == 0 || most > 12) || !p.allowed(s) {
				continue
			}
			p.do(t, s)
		}
		if !p.check(t) {
			t.Fatal(row)
		}
		for x := range p.m.names {
			for y := range p.m.names {
				l, m := p.m.nodes(x), p.m.nodes(y)
				same(t, l, m, show(l) == show(m))
			}
			count(t, p.a.Nodes(x))
		}
	}
}

// count checks Count against a walk from the outermost nodes inwards, level by level.
func count(t *testing.T, l []api.Node) {
	t.Helper()
	nodes, depth := 0, 0
	for level := l; len(level) > 0; depth++ {
		nodes += len(level)
		var next []api.Node
		for _, n := range level {
			next = append(next, n.Inner...)
		}
		level = next
	}
	counts(t, l, nodes, depth)
}
