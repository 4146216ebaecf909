package list_test

import (
	"math/rand/v2"
	"slices"
	"strconv"
	"strings"
	"testing"

	"decanter/arena"
	"decanter/list"
)

// rows is a list by the chapter's words: rows of elements, with a mark between each and the next one, so that the last row is what is behind the last mark. Rows never change; there is one at least.
type rows [][]int

// behind gives what is behind the last mark.
func (r rows) behind() []int { return r[len(r)-1] }

// with gives the rows with another one in place of one of them.
func (r rows) with(at int, row []int) rows {
	all := slices.Clone(r)
	all[at] = row
	return all
}

// all gives the entries.
func (r rows) all() []int {
	all := slices.Clone(r[0])
	for _, row := range r[1:] {
		all = append(append(all, mark), row...)
	}
	return all
}

// find gives an element's place.
func (r rows) find(i int) int {
	ahead := 0
	for _, row := range r {
		for at, own := range row {
			if own == i {
				return ahead + at
			}
		}
		ahead += len(row) + 1
	}
	return -1
}

// last gives the last element behind the last mark that is written so.
func (r rows) last(isSo func(i int) bool) int {
	found := 0
	for _, i := range r.behind() {
		if isSo(i) {
			found = i
		}
	}
	return found
}

// push gives the rows with an element behind all others, without the first one alike if there are three or more.
func (r rows) push(i int, alike func(other int) bool) rows {
	var same, left []int
	for _, other := range r.behind() {
		if alike(other) {
			same = append(same, other)
		}
	}
	for _, other := range r.behind() {
		if len(same) < 3 || other != same[0] {
			left = append(left, other)
		}
	}
	return r.with(len(r)-1, append(left, i))
}

// clear gives the rows without the last one.
func (r rows) clear() rows {
	if len(r) == 1 {
		return rows{nil}
	}
	return slices.Clone(r[:len(r)-1])
}

// replace gives the rows with others, or none, in place of an element.
func (r rows) replace(i int, by ...int) rows {
	for at, row := range r {
		for place, own := range row {
			if own == i {
				return r.with(at, slices.Concat(row[:place], by, row[place+1:]))
			}
		}
	}
	return r
}

// insert gives the rows with an element at a place.
func (r rows) insert(place, i int) rows {
	for at, row := range r {
		if place <= len(row) {
			return r.with(at, slices.Concat(row[:place], []int{i}, row[place:]))
		}
		place -= len(row) + 1
	}
	return r
}

// step is a call that may change a list: with an element or any number, and with another one or a place.
type step struct {
	call     string
	i, other int
}

// pair is a list and its model, to which the same is done.
type pair struct {
	elements []string // from the number 1 on
	l        *list.List
	r        rows
}

// newPair gives a list without entries, and its model, of an arena with some elements.
func newPair(elements []string) *pair {
	_, l := made(elements...)
	return &pair{elements: elements, l: l, r: rows{nil}}
}

// name gives an element's name.
func (p *pair) name(i int) string { return words(p.elements[i-1])[0] }

// alike tells whether an element has another one's name and attributes: whether it has the same words, in whichever order.
func (p *pair) alike(i, other int) bool {
	one, two := words(p.elements[i-1]), words(p.elements[other-1])
	slices.Sort(one[1:])
	slices.Sort(two[1:])
	return slices.Equal(one, two)
}

// allowed tells whether the chapter lets a step be: each element is there once at most, and places are those that there are.
func (p *pair) allowed(c step) bool {
	switch c.call {
	case "Push":
		return p.r.find(c.i) < 0
	case "Insert":
		return p.r.find(c.i) < 0 && c.other <= len(p.r.all())
	case "Replace":
		return c.i == c.other || p.r.find(c.other) < 0 || p.r.find(c.i) < 0
	}
	return true
}

// do takes a step in both.
func (p *pair) do(c step) {
	switch c.call {
	case "Push":
		p.l.Push(c.i)
		p.r = p.r.push(c.i, func(other int) bool { return p.alike(c.i, other) })
	case "Mark":
		p.l.Mark()
		p.r = append(slices.Clip(p.r), nil)
	case "Clear":
		p.l.Clear()
		p.r = p.r.clear()
	case "Remove":
		p.l.Remove(c.i)
		p.r = p.r.replace(c.i)
	case "Replace":
		p.l.Replace(c.i, c.other)
		p.r = p.r.replace(c.i, c.other)
	case "Insert":
		p.l.Insert(c.other, c.i)
		p.r = p.r.insert(c.other, c.i)
	}
}

// check holds all that a list answers against its model, and tells whether it is the same.
func (p *pair) check(t *testing.T) bool {
	t.Helper()
	holds(t, p.l, p.r.all()...)
	for i := -2; i <= len(p.elements)+1; i++ {
		finds(t, p.l, i, p.r.find(i))
	}
	for _, name := range words("b i u x") {
		want := p.r.last(func(i int) bool { return p.name(i) == name })
		if want == 0 {
			noLast(t, p.l, name)
		} else {
			last(t, p.l, name, want)
		}
	}
	noLast(t, p.l, "")
	return !t.Failed()
}

// steps are all steps with the elements that have numbers up to one, and places up to that.
func steps(most int) []step {
	all := []step{{call: "Mark"}, {call: "Clear"}, {call: "Remove", i: mark}, {call: "Remove"}}
	for i := 1; i <= most; i++ {
		all = append(all, step{call: "Push", i: i}, step{call: "Remove", i: i}, step{call: "Replace", i: mark, other: i})
		for other := range most + 1 {
			all = append(all, step{call: "Insert", i: i, other: other})
			if other > 0 {
				all = append(all, step{call: "Replace", i: i, other: other})
			}
		}
	}
	return all
}

// written writes steps out.
func written(all []step) string {
	var b strings.Builder
	for _, c := range all {
		b.WriteString(c.call + " " + strconv.Itoa(c.i) + " " + strconv.Itoa(c.other) + "; ")
	}
	return b.String()
}

// run takes steps, and tells whether all of them may be, and whether the list is as its model is.
func run(t *testing.T, elements []string, all []step) (may, right bool) {
	t.Helper()
	p := newPair(elements)
	for _, c := range all {
		if !p.allowed(c) {
			return false, true
		}
		p.do(c)
	}
	return true, p.check(t)
}

// P14.1, P14.2: all short rows of steps, from several starts on, by the model.
func TestShortRows(t *testing.T) {
	elements := []string{"b x=1 y", "b y x=1", "b x=1 y", "b y x=1", "i"}
	for _, start := range [][]int{nil, {1, 5}, {2, mark, 1}, {1, 2, 3}, {mark, 3, 1, 2}, {3, mark, 2, mark}} {
		var first []step
		for _, i := range start {
			if i == mark {
				first = append(first, step{call: "Mark"})
			} else {
				first = append(first, step{call: "Push", i: i})
			}
		}
		var grow func(all []step, left int)
		grow = func(all []step, left int) {
			may, right := run(t, elements, all)
			if !right {
				t.Fatal(written(all))
			}
			if !may || left == 0 {
				return
			}
			for _, c := range steps(5) {
				grow(append(slices.Clip(all), c), left-1)
			}
		}
		grow(first, 2)
		if len(start) == 3 {
			grow(first, 3)
		}
	}
}

// P14.1: all rows of Push, Mark and Clear, with elements of three sorts, by the model.
func TestRowsOfPushes(t *testing.T) {
	sorts := []string{"b", "b x=1", "i", "|", "clear"}
	const long = 7
	for choice := range 78125 {
		var elements []string
		var all []step
		for range long {
			sort := sorts[choice%len(sorts)]
			choice /= len(sorts)
			switch sort {
			case "|":
				all = append(all, step{call: "Mark"})
			case "clear":
				all = append(all, step{call: "Clear"})
			default:
				elements = append(elements, sort)
				all = append(all, step{call: "Push", i: len(elements)})
			}
		}
		if _, right := run(t, elements, all); !right {
			t.Fatal(elements, written(all))
		}
	}
}

// P14.1, P14.2: long rows of steps, always the same ones, by the model; two lists of one arena take turns.
func TestLongRows(t *testing.T) {
	random := rand.New(rand.NewPCG(14, 46))
	pool := []string{"b", "b", "b", "i", "u", "b x=1", "b x=1 y=2", "b y=2 x=1", "b x=2", "i x=1"}
	calls := words("Push Push Push Push Push Push Insert Insert Remove Replace Replace Mark Clear")
	for row := range 60 {
		a := arena.New()
		var elements []string
		for range 60 {
			elements = append(elements, pool[random.IntN(len(pool))])
			add(a, elements[len(elements)-1])
		}
		pairs := []*pair{{elements, list.New(a), rows{nil}}, {elements, list.New(a), rows{nil}}}
		for range 400 {
			p := pairs[random.IntN(2)]
			c := step{call: calls[random.IntN(len(calls))], i: 1 + random.IntN(len(elements)), other: 1 + random.IntN(len(elements))}
			if c.call == "Insert" {
				c.other = random.IntN(1 + len(p.r.all()))
			}
			if c.call == "Clear" && random.IntN(3) > 0 || !p.allowed(c) {
				continue
			}
			p.do(c)
			if !pairs[0].check(t) || !pairs[1].check(t) {
				t.Fatal(row, written([]step{c}))
			}
		}
	}
}
