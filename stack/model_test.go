package stack_test

import (
	"math/rand/v2"
	"slices"
	"strconv"
	"strings"
	"testing"

	"decanter/arena"
	"decanter/stack"
)

// frame is a stack by the chapter's words: its innermost element, and what that is in; a stack without elements is nil. A frame never changes.
type frame struct {
	i    int
	name string
	out  *frame
}

// all gives the elements, the outermost one first.
func (f *frame) all() []int {
	if f == nil {
		return nil
	}
	return append(f.out.all(), f.i)
}

// find gives an element's place.
func (f *frame) find(i int) int {
	switch {
	case f == nil:
		return -1
	case f.i == i:
		return len(f.out.all())
	}
	return f.out.find(i)
}

// remove gives the stack without an element.
func (f *frame) remove(i int) *frame {
	switch {
	case f == nil:
		return nil
	case f.i == i:
		return f.out
	}
	return &frame{f.i, f.name, f.out.remove(i)}
}

// insert gives the stack with an element at a place.
func (f *frame) insert(place int, new frame) *frame {
	if place == len(f.all()) {
		return &frame{new.i, new.name, f}
	}
	return &frame{f.i, f.name, f.out.insert(place, new)}
}

// in tells whether one of some names is there, as far as one looks.
func (f *frame) in(far int, names []string) bool {
	switch {
	case f == nil:
		return false
	case slices.Contains(names, f.name):
		return true
	case ends(far, f.name):
		return false
	}
	return f.out.in(far, names)
}

// popTo gives the stack that is left of it, and whether one of some names was there.
func (f *frame) popTo(names []string) (*frame, bool) {
	for at := f; at != nil; at = at.out {
		if slices.Contains(names, at.name) {
			return at.out, true
		}
	}
	return f, false
}

// implied gives the stack that is left of it.
func (f *frame) implied(but string) *frame {
	if f == nil || f.name == but || !slices.Contains(impliedNames, f.name) {
		return f
	}
	return f.out.implied(but)
}

// asked are the names that pairs of stacks are asked for.
var asked = [][]string{nil, {"p"}, {"table"}, {"ul"}, {"button"}, {"b"}, {"x"}, {"b", "p"}, {"x", "table", "li"}, {"button", "ul", "x"}}

// step is a call that may change a stack: with a number, with a place and a number, or with names.
type step struct {
	call     string
	place, i int
	names    []string
}

// pair is a stack and its model, to which the same is done.
type pair struct {
	names []string // those of the elements, from the number 1 on
	s     *stack.Stack
	f     *frame
}

// newPair gives a stack without elements, and its model, of an arena with elements of some names.
func newPair(names []string) pair {
	_, s := made(names...)
	return pair{names: names, s: s}
}

// allowed tells whether the chapter lets a step be: each element is there once at most, and places are those that there are.
func (p pair) allowed(c step) bool {
	switch c.call {
	case "Push":
		return p.f.find(c.i) < 0
	case "Insert":
		return p.f.find(c.i) < 0 && c.place <= len(p.f.all())
	}
	return true
}

// do takes a step in both.
func (p *pair) do(t *testing.T, c step) {
	t.Helper()
	switch c.call {
	case "Push":
		p.s.Push(c.i)
		p.f = &frame{c.i, p.names[c.i-1], p.f}
	case "Pop":
		if p.f == nil {
			pops(t, p.s, 0, false)
			return
		}
		pops(t, p.s, p.f.i, true)
		p.f = p.f.out
	case "Remove":
		p.s.Remove(c.i)
		p.f = p.f.remove(c.i)
	case "Insert":
		p.s.Insert(c.place, c.i)
		p.f = p.f.insert(c.place, frame{c.i, p.names[c.i-1], nil})
	case "PopTo":
		left, want := p.f.popTo(c.names)
		popsTo(t, p.s, c.names, want, left.all()...)
		p.f = left
	case "Implied":
		p.s.Implied(c.names[0])
		p.f = p.f.implied(c.names[0])
	}
}

// check holds all that a stack answers against its model, and tells whether it is the same.
func (p pair) check(t *testing.T) bool {
	t.Helper()
	holds(t, p.s, p.f.all()...)
	for i := -1; i <= len(p.names)+1; i++ {
		finds(t, p.s, i, p.f.find(i))
	}
	for _, names := range asked {
		for _, far := range fars {
			in(t, p.s, p.f.in(far, names), far, names...)
		}
	}
	return !t.Failed()
}

// steps are all steps with the elements that have numbers up to one, and places up to that.
func steps(most int) []step {
	all := []step{{call: "Pop"}}
	for i := 1; i <= most; i++ {
		all = append(all, step{call: "Push", i: i}, step{call: "Remove", i: i})
		for place := range most {
			all = append(all, step{call: "Insert", place: place, i: i})
		}
	}
	for _, names := range [][]string{nil, {"p"}, {"table", "li"}, {"x"}} {
		all = append(all, step{call: "PopTo", names: names})
	}
	for _, but := range []string{"", "p", "x"} {
		all = append(all, step{call: "Implied", names: []string{but}})
	}
	return all
}

// written writes steps out.
func written(all []step) string {
	var b strings.Builder
	for _, c := range all {
		b.WriteString(c.call + " " + strconv.Itoa(c.place) + " " + strconv.Itoa(c.i) + " " + strings.Join(c.names, ",") + "; ")
	}
	return b.String()
}

// run takes steps, and tells whether all of them may be, and whether the stack is as its model is.
func run(t *testing.T, names []string, all []step) (may, right bool) {
	t.Helper()
	p := newPair(names)
	for _, c := range all {
		if !p.allowed(c) {
			return false, true
		}
		p.do(t, c)
	}
	return true, p.check(t)
}

// P13.1, P13.2: all short rows of steps, from several starts on, by the model.
func TestShortRows(t *testing.T) {
	names := words("p table li p")
	for _, start := range [][]int{nil, {1}, {2, 1, 3}, {4, 3, 1, 2}} {
		var first []step
		for _, i := range start {
			first = append(first, step{call: "Push", i: i})
		}
		var grow func(all []step, left int)
		grow = func(all []step, left int) {
			may, right := run(t, names, all)
			if !right {
				t.Fatal(written(all))
			}
			if !may || left == 0 {
				return
			}
			for _, c := range steps(4) {
				grow(append(slices.Clip(all), c), left-1)
			}
		}
		grow(first, 3)
	}
}

// P13.2: In, PopTo and Implied of all short stacks of some names, by the model.
func TestShortStacks(t *testing.T) {
	pool := words("p b li ul button table object")
	buts := []string{"", "p", "li", "b", "x"}
	var grow func(names []string, left int)
	grow = func(names []string, left int) {
		all := func() pair {
			p := newPair(names)
			for at := range names {
				p.do(t, step{call: "Push", i: at + 1})
			}
			return p
		}
		p := all()
		right := p.check(t)
		for _, sought := range asked {
			p := all()
			p.do(t, step{call: "PopTo", names: sought})
			right = p.check(t) && right
		}
		for _, but := range buts {
			p := all()
			p.do(t, step{call: "Implied", names: []string{but}})
			right = p.check(t) && right
		}
		if !right {
			t.Fatal(names)
		}
		for _, name := range pool {
			if left > 0 {
				grow(append(slices.Clip(names), name), left-1)
			}
		}
	}
	grow(nil, 4)
}

// P13.1, P13.2: long rows of steps, always the same ones, by the model; two stacks of one arena take turns.
func TestLongRows(t *testing.T) {
	random := rand.New(rand.NewPCG(13, 57))
	pool := words("p p p b i li dd option div ul ol button table applet template h1 rtc x")
	for row := range 60 {
		a := arena.New()
		var names []string
		for range 40 {
			names = append(names, pool[random.IntN(len(pool))])
			a.Element(names[len(names)-1], nil)
		}
		pairs := []*pair{{names: names, s: stack.New(a)}, {names: names, s: stack.New(a)}}
		for range 300 {
			p := pairs[random.IntN(2)]
			c := step{call: words("Push Push Push Push Insert Insert Remove Pop PopTo Implied")[random.IntN(10)]}
			c.i, c.place = 1+random.IntN(len(names)), random.IntN(1+len(p.f.all()))
			c.names = []string{pool[random.IntN(len(pool))], pool[random.IntN(len(pool))]}
			if !p.allowed(c) {
				continue
			}
			p.do(t, c)
			if !pairs[0].check(t) || !pairs[1].check(t) {
				t.Fatal(row, written([]step{c}))
			}
		}
	}
}
