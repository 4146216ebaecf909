package stack_test

import (
	"math"
	"slices"
	"strconv"
	"strings"
	"sync"
	"testing"

	"decanter/api"
	"decanter/arena"
	"decanter/kind"
	"decanter/stack"
)

// boundaries are the names that end how far one looks, however far that is, and impliedNames those whose ends are implied, as layer 11's chapter lists them.
var (
	boundaries   = []string{"applet", "marquee", "object", "table", "template"}
	impliedNames = []string{"dd", "dt", "li", "optgroup", "option", "p", "rb", "rp", "rt", "rtc"}
)

// fars are the three numbers of how far one looks.
var fars = []int{stack.General, stack.Item, stack.Button}

// otherNumbers are numbers that no element of the tests' arenas has.
var otherNumbers = []int{0, -1, -2, 99, 1 << 31, 1 << 32, math.MaxInt, math.MinInt}

// otherNames are names that are neither boundaries nor ol, ul or button, but all that have a kind, and some that have none.
var otherNames = slices.DeleteFunc(append(kind.All(-1), "x", "x-y", "TABLE", "Button", "OL", "tables", "tabl", " ul", "ul ", "svg", "\x00", "\xff", "\u00e9"), func(name string) bool {
	return slices.Contains(boundaries, name) || slices.Contains([]string{"ol", "ul", "button"}, name)
})

// made gives an arena with elements of some names, from the number 1 on, and a stack without elements.
func made(names ...string) (*arena.Arena, *stack.Stack) {
	a := arena.New()
	for _, name := range names {
		a.Element(name, nil)
	}
	return a, stack.New(a)
}

// opened gives a stack in which elements of some names are open, from the number 1 on, the outermost one first.
func opened(names ...string) *stack.Stack {
	_, s := made(names...)
	for at := range names {
		s.Push(at + 1)
	}
	return s
}

// holds checks which elements are open: by All, Top, and Find of each.
func holds(t *testing.T, s *stack.Stack, want ...int) {
	t.Helper()
	if got := s.All(); !slices.Equal(got, want) {
		t.Errorf("All: %d, not %d", got, want)
	}
	top := 0
	for place, i := range want {
		top = i
		finds(t, s, i, place)
	}
	is(t, "Top", s.Top(), top)
}

// finds checks Find.
func finds(t *testing.T, s *stack.Stack, i, want int) {
	t.Helper()
	if got := s.Find(i); got != want {
		t.Errorf("Find(%d): %d, not %d", i, got, want)
	}
}

// pops checks Pop.
func pops(t *testing.T, s *stack.Stack, want int, there bool) {
	t.Helper()
	if i, ok := s.Pop(); i != want || ok != there {
		t.Errorf("Pop: %d and %t, not %d and %t", i, ok, want, there)
	}
}

// in checks In, twice, and that it takes nothing out.
func in(t *testing.T, s *stack.Stack, want bool, far int, names ...string) {
	t.Helper()
	before := s.All()
	for range 2 {
		if got := s.In(far, names...); got != want {
			t.Errorf("In(%d, %.80q): %t", far, names, got)
		}
	}
	if got := s.All(); !slices.Equal(got, before) {
		t.Errorf("In(%d, %.80q) leaves %d, not %d", far, names, got, before)
	}
}

// popsTo checks PopTo, and what it leaves.
func popsTo(t *testing.T, s *stack.Stack, names []string, want bool, left ...int) {
	t.Helper()
	if got := s.PopTo(names...); got != want {
		t.Errorf("PopTo(%.80q): %t", names, got)
	}
	holds(t, s, left...)
}

// implied checks what Implied leaves, also where it is asked again.
func implied(t *testing.T, s *stack.Stack, but string, left ...int) {
	t.Helper()
	for range 2 {
		s.Implied(but)
		holds(t, s, left...)
	}
}

// is checks a number.
func is(t *testing.T, what string, got, want int) {
	t.Helper()
	if got != want {
		t.Errorf("%s: %d, not %d", what, got, want)
	}
}

// numbers gives the numbers from one up to, and with, another one.
func numbers(from, to int) []int {
	var l []int
	for i := from; i <= to; i++ {
		l = append(l, i)
	}
	return l
}

// words gives a text's words.
func words(s string) []string { return strings.Fields(s) }

// ends tells by the chapter's words whether a name ends how far one looks.
func ends(far int, name string) bool {
	return slices.Contains(boundaries, name) || far == 1 && (name == "ol" || name == "ul") || far == 2 && name == "button"
}

// Types: the three numbers, which fit any kind of number.
func TestFars(t *testing.T) {
	if got := [3]int{stack.General, stack.Item, stack.Button}; got != [3]int{0, 1, 2} {
		t.Error(got)
	}
	if got := [3]uint8{stack.General, stack.Item, stack.Button}; got != [3]uint8{0, 1, 2} {
		t.Error(got)
	}
}

// P13.2: the chapter's example.
func TestExample(t *testing.T) {
	in(t, opened("div", "p", "b"), true, stack.General, "p")
	in(t, opened("div", "p", "table", "b"), false, stack.General, "p")
}

// P13.1: a new stack has no elements, whatever stands in its arena.
func TestNew(t *testing.T) {
	full, _ := made("p", "b")
	full.Append(0, 1)
	full.Append(1, 2)
	for _, a := range []*arena.Arena{arena.New(), full} {
		s := stack.New(a)
		pops(t, s, 0, false)
		holds(t, s)
		is(t, "elements", len(s.All()), 0)
		for _, i := range append(otherNumbers, 1, 2) {
			finds(t, s, i, -1)
			s.Remove(i)
			holds(t, s)
		}
		pops(t, s, 0, false)
	}
}

// P13.1: each one that is pushed is the innermost one then, whichever its number.
func TestPush(t *testing.T) {
	_, s := made("p", "b", "p", "i", "table")
	s.Push(3)
	holds(t, s, 3)
	finds(t, s, 1, -1)
	s.Push(1)
	holds(t, s, 3, 1)
	s.Push(5)
	s.Push(2)
	s.Push(4)
	holds(t, s, 3, 1, 5, 2, 4)
}

// P13.1: Top takes nothing out; Pop takes the innermost one out, down to none; then Push begins anew.
func TestPop(t *testing.T) {
	s := opened("p", "table", "b", "p")
	for range 3 {
		is(t, "Top", s.Top(), 4)
	}
	for i := 4; i >= 1; i-- {
		holds(t, s, numbers(1, i)...)
		pops(t, s, i, true)
		finds(t, s, i, -1)
	}
	for range 3 {
		pops(t, s, 0, false)
		holds(t, s)
	}
	s.Push(3)
	holds(t, s, 3)
	s.Push(1)
	holds(t, s, 3, 1)
	pops(t, s, 1, true)
	s.Push(2)
	holds(t, s, 3, 2)
	pops(t, s, 2, true)
	pops(t, s, 3, true)
	pops(t, s, 0, false)
}

// P13.1: places are counted from the outermost one on, from 0; what isn't there, or no longer, has the place -1.
func TestFind(t *testing.T) {
	_, s := made(words("a b c d e f")...)
	for _, i := range []int{4, 2, 6, 1, 3} {
		s.Push(i)
	}
	for place, i := range []int{4, 2, 6, 1, 3} {
		finds(t, s, i, place)
	}
	finds(t, s, 5, -1)
	for _, i := range otherNumbers {
		finds(t, s, i, -1)
	}
	s.Remove(2)
	finds(t, s, 2, -1)
	pops(t, s, 3, true)
	finds(t, s, 3, -1)
	holds(t, s, 4, 6, 1)
	s.PopTo("f")
	for _, i := range []int{6, 1} {
		finds(t, s, i, -1)
	}
	finds(t, s, 4, 0)
	s.Push(2)
	finds(t, s, 2, 1)
}

// P13.1: each one of some may be taken out; those behind it move up, those ahead of it stay.
func TestRemove(t *testing.T) {
	for most := 1; most <= 6; most++ {
		for gone := 1; gone <= most; gone++ {
			s := opened(words("a b c d e f")[:most]...)
			s.Remove(gone)
			left := append(numbers(1, gone-1), numbers(gone+1, most)...)
			holds(t, s, left...)
			finds(t, s, gone, -1)
			s.Remove(gone)
			holds(t, s, left...)
			s.Push(gone)
			holds(t, s, append(left, gone)...)
		}
	}
}

// P13.1: what isn't there is taken out of nothing, whatever number it is.
func TestRemoveOfOthers(t *testing.T) {
	a, s := made("p", "b", "i", "u")
	for i := 1; i <= 3; i++ {
		s.Push(i)
	}
	for _, i := range append(otherNumbers, 4, a.Element("p", nil), a.Copy(1)) {
		s.Remove(i)
		holds(t, s, 1, 2, 3)
	}
	for _, i := range []int{2, 1, 3} {
		s.Remove(i)
	}
	holds(t, s)
	pops(t, s, 0, false)
}

// P13.1: at each place of some; those from it on move behind, those ahead of it stay.
func TestInsert(t *testing.T) {
	for many := range 6 {
		for place := range many + 1 {
			a, s := made(words("a b c d e f")[:many]...)
			for i := 1; i <= many; i++ {
				s.Push(i)
			}
			i := a.Element("new", nil)
			s.Insert(place, i)
			holds(t, s, slices.Concat(numbers(1, place), []int{i}, numbers(place+1, many))...)
			in(t, s, true, stack.General, "new")
			j := a.Element("newer", nil)
			s.Insert(place, j)
			holds(t, s, slices.Concat(numbers(1, place), []int{j, i}, numbers(place+1, many))...)
			s.Insert(many+2, a.Copy(i))
			is(t, "Top", s.Top(), j+1)
			finds(t, s, j+1, many+2)
		}
	}
}

// P13.1: what is put between others, or taken out there, is seen by all other calls.
func TestInsertAndRemove(t *testing.T) {
	_, s := made("p", "table", "b", "li", "p")
	s.Push(1)
	s.Push(3)
	in(t, s, true, stack.General, "p")
	s.Insert(1, 2)
	holds(t, s, 1, 2, 3)
	in(t, s, false, stack.General, "p")
	s.Insert(2, 5)
	holds(t, s, 1, 2, 5, 3)
	in(t, s, true, stack.General, "p")
	s.Remove(5)
	in(t, s, false, stack.General, "p")
	s.Remove(2)
	in(t, s, true, stack.General, "p")
	s.Insert(2, 4)
	implied(t, s, "", 1, 3)
	pops(t, s, 3, true)
	s.Insert(0, 3)
	holds(t, s, 3, 1)
	implied(t, s, "", 3)
	s.Insert(1, 4)
	pops(t, s, 4, true)
	pops(t, s, 3, true)
	pops(t, s, 0, false)
}

// P13.1: a stack takes what is made in its arena later.
func TestMadeLater(t *testing.T) {
	a := arena.New()
	s := stack.New(a)
	s.Push(a.Element("li", []api.Attr{{Name: "id", Value: "1"}}))
	s.Push(a.Element("p", nil))
	in(t, s, true, stack.Item, "li")
	s.Insert(1, a.Element("ul", nil))
	in(t, s, false, stack.Item, "li")
	s.Push(a.Copy(1))
	holds(t, s, 1, 3, 2, 4)
	in(t, s, true, stack.Item, "li")
	popsTo(t, s, []string{"li"}, true, 1, 3, 2)
	a.Append(0, a.Element("table", nil))
	s.Push(5)
	in(t, s, false, stack.Item, "p")
	popsTo(t, s, []string{"p"}, true, 1, 3)
}

// shown writes out all that an arena tells of the root and of some elements.
func shown(a *arena.Arena, most int) string {
	var b strings.Builder
	var write func(l []api.Node)
	write = func(l []api.Node) {
		for _, n := range l {
			b.WriteString("<" + n.Name + strconv.Quote(n.Text))
			for _, own := range n.Attrs {
				b.WriteString(" " + own.Name + "=" + own.Value)
			}
			write(n.Inner)
			b.WriteString(">")
		}
	}
	for i := range most + 1 {
		b.WriteString(a.Name(i) + " in " + strconv.Itoa(a.Parent(i)) + ": ")
		write(append(a.Nodes(i), api.Node{Attrs: a.Attrs(i)}))
	}
	return b.String() + strconv.Itoa(a.Copies())
}

// P13.1, K5: a stack changes nothing in its arena, neither what stands where, nor how many elements there are.
func TestArenaStays(t *testing.T) {
	a, s := made(words("div p b li table option")...)
	a.Append(0, 1)
	a.Append(1, 2)
	a.Text(2, "t")
	a.Append(2, a.Element("i", []api.Attr{{Name: "x", Value: "1"}}))
	a.Append(0, a.Copy(7))
	before := shown(a, 8)
	for i := 1; i <= 6; i++ {
		s.Push(i)
	}
	s.Insert(0, 7)
	s.Insert(3, 8)
	s.Remove(4)
	s.Pop()
	for _, far := range fars {
		s.In(far, "div", "p")
	}
	s.Implied("p")
	s.PopTo("b")
	s.Implied("")
	s.All()
	s.Find(2)
	s.Top()
	s.PopTo("i")
	if got := shown(a, 8); got != before {
		t.Errorf("%s, not %s", got, before)
	}
	is(t, "the next element", a.Element("p", nil), 9)
}

// P13.1: what becomes of an element in the arena changes nothing in the stack.
func TestStackStays(t *testing.T) {
	a, s := made("div", "p", "b")
	for i := 1; i <= 3; i++ {
		s.Push(i)
	}
	a.Append(3, 1)
	a.Append(0, 2)
	a.Move(3, 2)
	a.Text(1, "t")
	a.Copy(3)
	holds(t, s, 1, 2, 3)
	in(t, s, true, stack.Button, "p")
	popsTo(t, s, []string{"p"}, true, 1)
}

// P13.2: each boundary, ol, ul and button between the innermost one and the one that is asked for, however far one looks.
func TestInBetween(t *testing.T) {
	for _, far := range fars {
		for _, between := range append(words("ol ul button"), boundaries...) {
			want := !ends(far, between)
			in(t, opened("p", between, "b"), want, far, "p")
			in(t, opened("p", between), want, far, "p")
			in(t, opened("div", "p", "i", between, "b", "u"), want, far, "p")
			in(t, opened("div", "p", between, "b"), want, far, "p", "div", "x")
			in(t, opened("p", between, "p", "b"), true, far, "p")
			in(t, opened("div", between, "p", "b"), true, far, "p")
			in(t, opened("div", between, "p", "b"), want, far, "div")
			in(t, opened("div", between, "p", "b"), true, far, "div", "p")
			in(t, opened(between, "p", "b"), true, far, "p")
		}
	}
	in(t, opened("p", "ul", "b"), true, stack.General, "p")
	in(t, opened("p", "button", "b"), true, stack.General, "p")
	in(t, opened("p", "ol", "b"), false, stack.Item, "p")
	in(t, opened("p", "ul", "b"), false, stack.Item, "p")
	in(t, opened("p", "button", "b"), true, stack.Item, "p")
	in(t, opened("p", "ol", "b"), true, stack.Button, "p")
	in(t, opened("p", "button", "b"), false, stack.Button, "p")
}

// P13.2: nothing else ends how far one looks: no other kind of element, and no name that is nearly one that does.
func TestInBetweenOthers(t *testing.T) {
	for _, far := range fars {
		for _, between := range otherNames {
			in(t, opened("asked", between, "b"), true, far, "asked")
			in(t, opened("asked", between), true, far, "asked")
		}
		in(t, opened(append([]string{"asked"}, otherNames...)...), true, far, "asked")
	}
}

// P13.2: a name is asked first: a boundary, an ol, a ul or a button that is one of the names is found, as far as nothing further in ends the look.
func TestInOfEnds(t *testing.T) {
	for _, far := range fars {
		for _, end := range append(words("ol ul button"), boundaries...) {
			in(t, opened(end), true, far, end)
			in(t, opened("p", end), true, far, end)
			in(t, opened("p", end, "b"), true, far, end)
			in(t, opened("p", end, "b"), true, far, "p", end)
			in(t, opened("p", end, "b"), true, far, end, "p")
			in(t, opened(end, end, "b"), true, far, end)
			for _, within := range append(words("ol ul button"), boundaries...) {
				in(t, opened(end, within, "b"), end == within || !ends(far, within), far, end)
				in(t, opened(end, within, "b"), true, far, within)
				in(t, opened(end, within, "b"), true, far, end, within)
			}
		}
	}
}

// P13.2: no name, one, and several, of which none, one or more is there.
func TestInNames(t *testing.T) {
	s := opened("div", "p", "b", "i")
	for _, far := range fars {
		in(t, s, false, far)
		in(t, s, false, far, []string{}...)
		for _, name := range words("div p b i") {
			in(t, s, true, far, name)
			in(t, s, true, far, "x", name)
			in(t, s, true, far, name, "x")
			in(t, s, true, far, "x", "y", name, "z")
			in(t, s, true, far, name, name)
			in(t, s, true, far, name, "i", "p")
		}
		in(t, s, false, far, "x")
		in(t, s, false, far, "x", "y", "z")
		in(t, s, false, far, "")
	}
}

// P13.2: of several names the innermost one counts that one comes to; one beyond the end isn't there, though another one stands ahead of it among the names.
func TestInSeveralNames(t *testing.T) {
	s := opened("h1", "table", "h2", "b")
	for _, far := range fars {
		in(t, s, true, far, "h1", "h2")
		in(t, s, true, far, "h2", "h1")
		in(t, s, false, far, "h1", "h3")
		in(t, s, false, far, "h3", "h1")
		in(t, s, true, far, "h1", "table")
		in(t, s, true, far, "h3", "table", "h1")
		in(t, s, true, far, "h1", "b")
	}
}

// P13.2: names are told as they are: with great letters, blanks or bytes more or less they are others.
func TestInOtherNames(t *testing.T) {
	for _, far := range fars {
		s := opened("div", "p", "b")
		in(t, s, false, far, "P", "B", "DIV", "p ", " p", "", "di", "divs", "p\x00", "x-y", "\xff", "p b", "root", "0", "*")
		for _, name := range otherNames {
			in(t, s, slices.Contains(words("div p b"), name), far, name)
			in(t, opened("table", name), true, far, name)
			in(t, opened("P", name), name == "p", far, "p")
		}
		in(t, opened("P", "TABLE", "b"), true, far, "P")
		in(t, opened("P", "BUTTON", "UL", "OL", "b"), true, far, "P")
	}
}

// P13.2: in an empty stack there is nothing, and at the outermost one the look ends.
func TestInEmptyAndOutermost(t *testing.T) {
	for _, far := range fars {
		_, s := made("p", "table")
		in(t, s, false, far, "p")
		in(t, s, false, far, "table", "p", "")
		in(t, s, false, far)
		s.Push(1)
		in(t, s, true, far, "p")
		in(t, s, false, far, "b")
		s.Pop()
		in(t, s, false, far, "p")
		in(t, opened("p", "b", "i", "u"), true, far, "p")
		in(t, opened("p", "b", "i", "u"), false, far, "x")
		in(t, opened("ul", "b"), true, far, "ul")
		in(t, opened("table", "b"), false, far, "p")
	}
}

// P13.2: In asks neither a parent in the arena nor a number: what stands in the stack alone counts.
func TestInAsksTheStack(t *testing.T) {
	a, s := made("p", "table", "b", "i")
	a.Append(0, 1)
	a.Append(1, 2)
	a.Append(2, 3)
	s.Push(1)
	s.Push(3)
	in(t, s, true, stack.General, "p")
	in(t, s, false, stack.General, "table", "i")
	_, s = made("table", "p", "b")
	for _, i := range []int{2, 1, 3} {
		s.Push(i)
	}
	in(t, s, false, stack.General, "p")
}

// P13.2: a name that is there once: it, and all within it, are taken out; what it is in stays.
func TestPopTo(t *testing.T) {
	for at, name := range words("div p b i u") {
		s := opened(words("div p b i u")...)
		popsTo(t, s, []string{name}, true, numbers(1, at)...)
		popsTo(t, s, []string{name}, false, numbers(1, at)...)
	}
	popsTo(t, opened("p"), []string{"p"}, true)
}

// P13.2: of a name that is there more than once the innermost one is meant; so it is of several names, whichever their order.
func TestPopToInnermost(t *testing.T) {
	s := opened(words("p b p b p i")...)
	popsTo(t, s, []string{"p"}, true, 1, 2, 3, 4)
	popsTo(t, s, []string{"p"}, true, 1, 2)
	popsTo(t, s, []string{"p"}, true)
	popsTo(t, s, []string{"p"}, false)
	for _, names := range []string{"p b", "b p", "x p b", "b x p", "p p b"} {
		popsTo(t, opened(words("p b i u")...), words(names), true, 1)
		popsTo(t, opened(words("b p i u")...), words(names), true, 1)
		popsTo(t, opened(words("b i p")...), words(names), true, 1, 2)
		popsTo(t, opened(words("i p i")...), words(names), true, 1)
	}
	s = opened(words("h1 p h2 h3 b")...)
	popsTo(t, s, words("h1 h2 h3 h4 h5 h6"), true, 1, 2, 3)
	popsTo(t, s, words("h1 h2 h3 h4 h5 h6"), true, 1, 2)
	popsTo(t, s, words("h1 h2 h3 h4 h5 h6"), true)
}

// P13.2: of names that aren't there, and of no names, nothing is taken out.
func TestPopToOfNone(t *testing.T) {
	s := opened(words("div p table b")...)
	for _, names := range [][]string{nil, {}, make([]string, 0, 3), {"x"}, {"x", "y"}, {""}, {"P"}, {"p "}, {"root", "i"}} {
		popsTo(t, s, names, false, 1, 2, 3, 4)
	}
	_, empty := made("p")
	for _, names := range [][]string{nil, {"p"}, {"p", ""}} {
		popsTo(t, empty, names, false)
	}
}

// P13.2: nothing ends how far PopTo looks.
func TestPopToBeyond(t *testing.T) {
	for _, between := range append(words("ol ul button"), boundaries...) {
		popsTo(t, opened("div", "p", between, "b"), []string{"p"}, true, 1)
		popsTo(t, opened("p", between), []string{"p"}, true)
		popsTo(t, opened("div", "p", between, "b"), []string{between}, true, 1, 2)
		popsTo(t, opened("div", "p", between, "b"), []string{"p", between}, true, 1, 2)
	}
	popsTo(t, opened(append([]string{"div", "asked"}, otherNames...)...), []string{"asked"}, true, 1)
}

// P13.2: what of the kind Implied is innermost is taken out, one by one; what isn't ends it, though such ones stand further out.
func TestImplied(t *testing.T) {
	for _, name := range impliedNames {
		implied(t, opened(name), "")
		implied(t, opened("div", name), "", 1)
		implied(t, opened("div", name, name), "", 1)
		implied(t, opened(name, "div"), "", 1, 2)
		implied(t, opened(name, "div", name), "", 1, 2)
		implied(t, opened(name, "div", name), "x", 1, 2)
	}
	all := len(impliedNames)
	implied(t, opened(impliedNames...), "")
	implied(t, opened(append([]string{"ul"}, impliedNames...)...), "", 1)
	implied(t, opened(append(slices.Clone(impliedNames), "b")...), "", numbers(1, all+1)...)
	implied(t, opened(slices.Concat(impliedNames, []string{"table"}, impliedNames)...), "", numbers(1, all+1)...)
	implied(t, opened(words("p li b dd dt")...), "", 1, 2, 3)
}

// P13.2: nothing else is taken out: no other kind of element, and no name that is nearly one of the kind Implied.
func TestImpliedOthers(t *testing.T) {
	for _, name := range append(append(words("P LI Option lis l rtcs r button ol ul"), boundaries...), otherNames...) {
		if slices.Contains(impliedNames, name) {
			continue
		}
		for _, but := range []string{"", "p", "x", name} {
			implied(t, opened("p", name), but, 1, 2)
			implied(t, opened(name), but, 1)
		}
		implied(t, opened("p", name, "li", "rp"), "", 1, 2)
	}
	implied(t, opened("div", "b", "i"), "", 1, 2, 3)
	_, s := made("p")
	for _, but := range []string{"", "p", "x"} {
		implied(t, s, but)
	}
}

// P13.2: the innermost one of a name is kept, and all further out; where none has it, it changes nothing.
func TestImpliedBut(t *testing.T) {
	for at, but := range impliedNames {
		implied(t, opened(impliedNames...), but, numbers(1, at+1)...)
		implied(t, opened(but), but, 1)
		implied(t, opened(but, but), but, 1, 2)
		implied(t, opened("div", but), but, 1, 2)
	}
	implied(t, opened(words("li p li dd option")...), "li", 1, 2, 3)
	implied(t, opened(words("li p dd")...), "dd", 1, 2, 3)
	implied(t, opened(words("li p dd")...), "li", 1)
	implied(t, opened(words("li b p dd")...), "li", 1, 2)
	implied(t, opened(words("div p dd")...), "div", 1)
	implied(t, opened(words("div p dd")...), "li", 1)
	implied(t, opened(words("p dd")...), "P")
	implied(t, opened(words("p dd")...), "p ")
	implied(t, opened(words("p dd")...), "x")
	implied(t, opened(words("div p dd b")...), "b", 1, 2, 3, 4)
}

// K5: names that are handed in stay as they are, and what their caller does with them later changes no answer.
func TestNamesAreNotKept(t *testing.T) {
	memory := words("x p y behind behind")
	before := slices.Clone(memory)
	s := opened(words("ul p li b")...)
	names := memory[:3]
	in(t, s, true, stack.General, names...)
	in(t, s, false, stack.General, names[:1]...)
	popsTo(t, s, names[2:], false, 1, 2, 3, 4)
	if !slices.Equal(memory, before) {
		t.Errorf("handed in: %q", memory)
	}
	for at := range memory {
		memory[at] = "li"
	}
	in(t, s, false, stack.General, "x", "y")
	in(t, s, true, stack.General, "x", "p", "y")
	popsTo(t, s, words("x p y"), true, 1)
	popsTo(t, s, memory, false, 1)
}

// K5: what All answered, and its caller changes or makes longer, changes no later answer, no other one, and nothing in the stack; and it stays, whatever becomes of the stack.
func TestAnswersAreNew(t *testing.T) {
	_, s := made(words("div p b i u")...)
	for i := 1; i <= 4; i++ {
		s.Push(i)
	}
	pops(t, s, 4, true)
	one, two := s.All(), s.All()
	one = one[:cap(one)]
	for at := range one {
		one[at] = 99
	}
	_ = append(one[:0], 5, 5, 5, 5)
	if !slices.Equal(two, []int{1, 2, 3}) {
		t.Errorf("another answer: %d", two)
	}
	holds(t, s, 1, 2, 3)
	in(t, s, true, stack.General, "p")
	pops(t, s, 3, true)
	s.Push(5)
	s.Insert(0, 4)
	s.Remove(1)
	holds(t, s, 4, 2, 5)
	if !slices.Equal(two, []int{1, 2, 3}) {
		t.Errorf("answered ahead of the change: %d", two)
	}
	three := s.All()
	_ = append(three, 99)
	s.Push(3)
	holds(t, s, 4, 2, 5, 3)
	popsTo(t, s, []string{"p"}, true, 4)
	if !slices.Equal(three, []int{4, 2, 5}) {
		t.Errorf("answered ahead of PopTo: %d", three)
	}
}

// K6: two stacks of one arena don't touch each other, though the same elements are in both.
func TestStacksOfOneArena(t *testing.T) {
	a, one := made("div", "p", "b", "li")
	two := stack.New(a)
	for i := 1; i <= 3; i++ {
		one.Push(i)
	}
	holds(t, two)
	in(t, two, false, stack.General, "p")
	pops(t, two, 0, false)
	two.Push(4)
	two.Push(2)
	holds(t, one, 1, 2, 3)
	two.Insert(0, 3)
	two.Remove(2)
	implied(t, two, "", 3)
	holds(t, one, 1, 2, 3)
	popsTo(t, one, []string{"div"}, true)
	holds(t, two, 3)
}

// K6: nor do two stacks of two arenas, in which the same numbers have other names.
func TestStacksOfTwoArenas(t *testing.T) {
	one, two := opened("p", "table", "b"), opened("b", "p", "li")
	in(t, one, false, stack.General, "p")
	in(t, two, true, stack.General, "p")
	in(t, one, false, stack.General, "li")
	implied(t, two, "", 1)
	implied(t, one, "", 1, 2, 3)
	popsTo(t, two, []string{"b"}, true)
	popsTo(t, one, []string{"table"}, true, 1)
	var group sync.WaitGroup
	for range 8 {
		group.Go(func() {
			a, own := made()
			for i := 1; i <= 300; i++ {
				own.Push(a.Element(impliedNames[i%10], nil))
				in(t, own, i > 1, stack.Button, impliedNames[(i-1)%10], "x")
			}
			holds(t, own, numbers(1, 300)...)
			implied(t, own, "li", numbers(1, 292)...)
		})
	}
	group.Wait()
}

// K6: the same question answers the same each time, and to ask changes nothing.
func TestSameAgain(t *testing.T) {
	s := opened(words("li ul p button b")...)
	for range 3 {
		holds(t, s, 1, 2, 3, 4, 5)
		finds(t, s, 7, -1)
		in(t, s, true, stack.General, "li")
		in(t, s, false, stack.Item, "li")
		in(t, s, true, stack.Item, "p")
		in(t, s, false, stack.Button, "p")
		popsTo(t, s, []string{"x"}, false, 1, 2, 3, 4, 5)
		implied(t, s, "", 1, 2, 3, 4, 5)
	}
}

// P13.1, P13.2: as many elements one within the other as the document bounds.
func TestDeep(t *testing.T) {
	const deep = 1 << 16
	a, s := made("p", "table")
	s.Push(1)
	for place := 1; place < deep; place++ {
		s.Push(a.Element("li", nil))
	}
	is(t, "elements", len(s.All()), deep)
	is(t, "Top", s.Top(), deep+1)
	finds(t, s, 1, 0)
	finds(t, s, deep+1, deep-1)
	finds(t, s, deep, deep-2)
	in(t, s, true, stack.Button, "p")
	in(t, s, false, stack.General, "x")
	s.Insert(1, 2)
	in(t, s, false, stack.Button, "p")
	in(t, s, true, stack.Button, "table")
	finds(t, s, deep+1, deep)
	s.Remove(deep / 2)
	finds(t, s, deep+1, deep-1)
	s.Implied("")
	holds(t, s, 1, 2)
	for i := 3; i <= deep; i++ {
		s.Push(i)
	}
	popsTo(t, s, []string{"p"}, true)
	pops(t, s, 0, false)
}

// K7: places, numbers of how far one looks, and elements that the chapter doesn't hand in: no call panics, and each ends.
func TestOtherArguments(t *testing.T) {
	s := opened("div", "p", "b")
	for _, place := range []int{-1, -2, 4, 5, 1 << 32, math.MaxInt, math.MinInt} {
		s.Insert(place, 1)
		holds(t, s, 1, 2, 3)
	}
	for _, far := range []int{-1, 3, 4, math.MaxInt, math.MinInt} {
		in(t, s, true, far, "p")
		in(t, s, false, far, "x")
	}
	for _, i := range otherNumbers {
		s.Push(i)
		s.Insert(0, i)
		s.Top()
		s.Implied("")
		s.In(stack.Item, "x")
		s.PopTo("x")
		s.Remove(i)
		s.Remove(i)
	}
	holds(t, s, 1, 2, 3)
}
