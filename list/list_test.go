package list_test

import (
	"math"
	"slices"
	"strconv"
	"strings"
	"sync"
	"testing"

	"decanter/api"
	"decanter/arena"
	"decanter/attr"
	"decanter/list"
)

// mark is an entry that is a mark, as the chapter numbers it.
const mark = -1

// otherNumbers are numbers that no element of the tests' arenas has.
var otherNumbers = []int{0, -1, -2, -3, 99, 1 << 31, 1 << 32, 1<<32 + 1, math.MaxInt, math.MinInt}

// attrs gives the attributes of words: x=1 one with a value, x one without.
func attrs(written ...string) []api.Attr {
	var l []api.Attr
	for _, word := range written {
		name, value, _ := strings.Cut(word, "=")
		l = append(l, api.Attr{Name: name, Value: value})
	}
	return l
}

// add gives a new element: its name, and its attributes behind that.
func add(a *arena.Arena, element string) int {
	words := strings.Fields(element)
	return a.Element(words[0], attrs(words[1:]...))
}

// made gives an arena with elements, from the number 1 on, and a list without entries.
func made(elements ...string) (*arena.Arena, *list.List) {
	a := arena.New()
	for _, element := range elements {
		add(a, element)
	}
	return a, list.New(a)
}

// listed gives a list of elements, from the number 1 on, with marks where a | stands. They are put in by Insert, so that none is taken out.
func listed(entries ...string) *list.List {
	a, l := made()
	for _, entry := range entries {
		if entry == "|" {
			l.Mark()
			continue
		}
		l.Insert(len(l.All()), add(a, entry))
	}
	return l
}

// alike gives an arena with as many b alike, from the number 1 on, and a list without entries.
func alike(many int) (*arena.Arena, *list.List) {
	return made(slices.Repeat([]string{"b"}, many)...)
}

// push pushes elements, one by one.
func push(l *list.List, elements ...int) {
	for _, i := range elements {
		l.Push(i)
	}
}

// holds checks which entries there are: by All, and Find of each.
func holds(t *testing.T, l *list.List, want ...int) {
	t.Helper()
	if got := l.All(); !slices.Equal(got, want) {
		t.Errorf("All: %d, not %d", got, want)
	}
	for place, i := range want {
		if i != mark {
			finds(t, l, i, place)
		}
	}
	finds(t, l, mark, -1)
}

// finds checks Find.
func finds(t *testing.T, l *list.List, i, want int) {
	t.Helper()
	if got := l.Find(i); got != want {
		t.Errorf("Find(%d): %d, not %d", i, got, want)
	}
}

// last checks Last of a name that is there.
func last(t *testing.T, l *list.List, name string, want int) {
	t.Helper()
	if i, ok := l.Last(name); i != want || !ok {
		t.Errorf("Last(%q): %d and %t, not %d", name, i, ok, want)
	}
}

// noLast checks Last of names that aren't there.
func noLast(t *testing.T, l *list.List, names ...string) {
	t.Helper()
	for _, name := range names {
		if i, ok := l.Last(name); i != 0 || ok {
			t.Errorf("Last(%q): %d and %t", name, i, ok)
		}
	}
}

// is checks a number.
func is(t *testing.T, what string, got, want int) {
	t.Helper()
	if got != want {
		t.Errorf("%s: %d, not %d", what, got, want)
	}
}

// numbers gives the numbers from one up to, and with, another one.
func numbers(from, to int) []int {
	var l []int
	for i := from; i <= to; i++ {
		l = append(l, i)
	}
	return l
}

// words gives a text's words.
func words(s string) []string { return strings.Fields(s) }

// orders gives all orders of some attributes.
func orders(l []api.Attr) [][]api.Attr {
	if len(l) == 0 {
		return [][]api.Attr{nil}
	}
	var all [][]api.Attr
	for at, own := range l {
		for _, rest := range orders(slices.Concat(l[:at], l[at+1:])) {
			all = append(all, append([]api.Attr{own}, rest...))
		}
	}
	return all
}

// Types: the number of a mark, which fits any kind of number that may be below 0.
func TestMarkNumber(t *testing.T) {
	if got := [1]int8{list.Mark}; got != [1]int8{-1} {
		t.Error(got)
	}
	if got := [1]int{list.Mark}; got != [1]int{-1} {
		t.Error(got)
	}
}

// P14.1: the chapter's example.
func TestExample(t *testing.T) {
	_, l := alike(4)
	push(l, 1, 2, 3, 4)
	holds(t, l, 2, 3, 4)
}

// P14.1, P14.2: a new list has no entries, whatever stands in its arena.
func TestNew(t *testing.T) {
	full, _ := made("b", "i")
	full.Append(0, 1)
	full.Append(1, 2)
	for _, a := range []*arena.Arena{arena.New(), full} {
		l := list.New(a)
		is(t, "entries", len(l.All()), 0)
		noLast(t, l, "b", "i", "", "x")
		for _, i := range append(otherNumbers, 1, 2) {
			finds(t, l, i, -1)
			l.Remove(i)
			holds(t, l)
			l.Replace(i, 1)
			holds(t, l)
		}
		l.Clear()
		holds(t, l)
		noLast(t, l, "b", "i", "", "x")
	}
}

// P14.1: each one that is pushed stands behind all others, whichever its number.
func TestPush(t *testing.T) {
	_, l := made(words("b i u a em")...)
	push(l, 3)
	holds(t, l, 3)
	push(l, 1)
	holds(t, l, 3, 1)
	push(l, 5, 2, 4)
	holds(t, l, 3, 1, 5, 2, 4)
}

// P14.1: one, two and three alike stay; a fourth, a fifth and so on take the first one of these out each time.
func TestPushOfAlike(t *testing.T) {
	for _, element := range []string{"b", "b x=1", "font color=red size=1 face", "x-y"} {
		a, l := made()
		for i := 1; i <= 8; i++ {
			push(l, add(a, element))
			holds(t, l, numbers(max(1, i-2), i)...)
		}
	}
}

// P14.1: the first one of these is taken out wherever it stands, and all others stay in order: three alike at each three of six places, the others all unlike.
func TestPushTakesOutTheFirst(t *testing.T) {
	for choice := range 1 << 6 {
		a, l := made()
		var all []int
		first, many := -1, 0
		for place := range 6 {
			element := "b id=" + strconv.Itoa(place)
			if choice>>place&1 == 1 {
				element = "b"
				many++
				if many == 1 {
					first = place
				}
			}
			all = append(all, add(a, element))
			push(l, all[place])
		}
		if many > 3 {
			continue
		}
		holds(t, l, all...)
		push(l, add(a, "b"))
		if many == 3 {
			all = slices.Delete(all, first, first+1)
		}
		holds(t, l, append(all, 7)...)
	}
}

// unlike are elements no two of which have the same name and the same attributes.
var unlike = []string{
	"b", "i", "B", "bb", "b x", "b x=1", "b x=2", "b x=1.", "b x=X", "b X=1", "b y=1", "i x=1", "b x=1 y=1", "b x=1 y=2", "b x=2 y=1",
	"b x=y y=x", "b x=x y=y", "b xy=1", "b x=y1", "b x=1 y", "b x y=1", "b x=1 y=1 z=1", "i x=1 y=1 z=1", "b x=1,y=1", "b 1=x", "b x==1", "b x=\x00", "b x=\xff",
}

// P14.1: elements with the same name and other attributes, an attribute more, or none, and with other names and the same attributes, take each other not out.
func TestPushOfUnlike(t *testing.T) {
	for _, one := range unlike {
		for _, other := range unlike {
			if one == other {
				continue
			}
			_, l := made(one, one, one, other, other, other, one, other)
			push(l, 1, 2, 3, 4, 5, 6)
			holds(t, l, 1, 2, 3, 4, 5, 6)
			push(l, 8)
			holds(t, l, 1, 2, 3, 5, 6, 8)
			push(l, 7)
			holds(t, l, 2, 3, 5, 6, 8, 7)
		}
	}
}

// P14.1: with all of the unlike ones in the list, three times each, each one takes out the first one that is alike.
func TestPushOfManyUnlike(t *testing.T) {
	a, l := made()
	var all []int
	for range 3 {
		for _, element := range unlike {
			all = append(all, add(a, element))
			push(l, all[len(all)-1])
		}
	}
	holds(t, l, all...)
	for at := len(unlike) - 1; at >= 0; at-- {
		i := add(a, unlike[at])
		push(l, i)
		all = append(slices.Delete(all, at, at+1), i)
		holds(t, l, all...)
	}
}

// P14.1: in whichever order attributes stand they are the same.
func TestPushInOtherOrder(t *testing.T) {
	all := orders(attrs("x=1", "y=2", "z"))
	for _, other := range all {
		a, l := made("b x=1 y=2 z", "b x=1 y=2 z", "b y=2 x=1 z")
		push(l, 1, 2, 3, a.Element("b", other))
		holds(t, l, 2, 3, 4)
	}
	a, l := made()
	for at, own := range all {
		push(l, a.Element("b", own))
		holds(t, l, numbers(max(1, at-1), at+1)...)
	}
	_, l = made("b x=1 y=2", "b y=2 x=1", "b y=1 x=2", "b x=1 y=2", "b y=2 x=1", "b x=2 y=1")
	push(l, 1, 2, 3, 4, 6)
	holds(t, l, 1, 2, 3, 4, 6)
	push(l, 5)
	holds(t, l, 2, 3, 4, 6, 5)
}

// P14.1: whether attributes are the same is layer 6's Same, also where a name is there twice.
func TestPushBySame(t *testing.T) {
	pool := attrs("x=1", "x=2", "x", "y=1")
	all := [][]api.Attr{nil}
	for at := 0; len(all[at]) < 3; at++ {
		for _, own := range pool {
			all = append(all, append(slices.Clip(all[at]), own))
		}
	}
	for _, one := range all {
		for _, other := range all {
			a := arena.New()
			l := list.New(a)
			for i := range 4 {
				l.Insert(i, a.Element("b", one))
			}
			push(l, a.Element("b", other))
			if attr.Same(one, other) {
				holds(t, l, 2, 3, 4, 5)
			} else {
				holds(t, l, 1, 2, 3, 4, 5)
			}
			if t.Failed() {
				t.Fatal(one, other)
			}
		}
	}
}

// P14.1: copies are alike, and what stands in elements counts for nothing.
func TestPushOfCopies(t *testing.T) {
	a, l := made("b x=1")
	a.Append(0, 1)
	a.Text(1, "t")
	push(l, 1, a.Copy(1), a.Copy(1))
	a.Append(1, 3)
	holds(t, l, 1, 2, 3)
	push(l, a.Copy(3))
	holds(t, l, 2, 3, 4)
}

// P14.1: those alike ahead of the last mark don't count, nor are they taken out, however many there are.
func TestPushBehindMark(t *testing.T) {
	_, l := alike(12)
	push(l, 1, 2, 3)
	l.Mark()
	push(l, 4)
	holds(t, l, 1, 2, 3, mark, 4)
	push(l, 5, 6)
	holds(t, l, 1, 2, 3, mark, 4, 5, 6)
	push(l, 7)
	holds(t, l, 1, 2, 3, mark, 5, 6, 7)
	l.Mark()
	push(l, 8, 9, 10, 11)
	holds(t, l, 1, 2, 3, mark, 5, 6, 7, mark, 9, 10, 11)
	l.Clear()
	push(l, 12)
	holds(t, l, 1, 2, 3, mark, 6, 7, 12)
	l.Clear()
	push(l, 4)
	holds(t, l, 2, 3, 4)
	l.Mark()
	l.Mark()
	push(l, 5)
	holds(t, l, 2, 3, 4, mark, mark, 5)
	l.Clear()
	push(l, 6)
	holds(t, l, 2, 3, 4, mark, 6)
}

// P14.1: two ahead of a mark and two behind it are no four; a mark at the very beginning changes nothing.
func TestPushAroundMark(t *testing.T) {
	_, l := alike(6)
	push(l, 1, 2)
	l.Mark()
	push(l, 3, 4)
	holds(t, l, 1, 2, mark, 3, 4)
	push(l, 5, 6)
	holds(t, l, 1, 2, mark, 4, 5, 6)
	_, l = alike(4)
	l.Mark()
	push(l, 1, 2, 3, 4)
	holds(t, l, mark, 2, 3, 4)
}

// P14.1: by Insert and by Replace more than three may be alike; Push takes just the first one of these out.
func TestPushBehindMoreAlike(t *testing.T) {
	a, l := alike(9)
	other := add(a, "i")
	for i := 1; i <= 5; i++ {
		l.Insert(i-1, i)
	}
	l.Insert(3, other)
	holds(t, l, 1, 2, 3, other, 4, 5)
	push(l, 6)
	holds(t, l, 2, 3, other, 4, 5, 6)
	push(l, 7)
	holds(t, l, 3, other, 4, 5, 6, 7)
	l.Replace(other, 8)
	holds(t, l, 3, 8, 4, 5, 6, 7)
	push(l, 9)
	holds(t, l, 8, 4, 5, 6, 7, 9)
	l.Insert(2, 1)
	l.Mark()
	l.Insert(8, 2)
	push(l, 3)
	holds(t, l, 8, 4, 1, 5, 6, 7, 9, mark, 2, 3)
	l.Insert(0, 10)
	l.Clear()
	push(l, 2)
	holds(t, l, 10, 4, 1, 5, 6, 7, 9, 2)
}

// P14.1: one that Insert puts ahead of those alike is the first one then, whichever its number; one that was taken out counts no more.
func TestPushByPlace(t *testing.T) {
	_, l := alike(6)
	push(l, 1, 2)
	l.Insert(0, 5)
	push(l, 3)
	holds(t, l, 1, 2, 3)
	l.Remove(2)
	push(l, 4)
	holds(t, l, 1, 3, 4)
	push(l, 6)
	holds(t, l, 3, 4, 6)
	push(l, 1)
	holds(t, l, 4, 6, 1)
}

// P14.1: a mark of an empty list, behind elements, and behind a mark; All tells -1 for each.
func TestMark(t *testing.T) {
	_, l := made("b", "i")
	l.Mark()
	holds(t, l, -1)
	l.Mark()
	holds(t, l, -1, -1)
	push(l, 2)
	l.Mark()
	push(l, 1)
	holds(t, l, -1, -1, 2, -1, 1)
	l.Mark()
	holds(t, l, -1, -1, 2, -1, 1, -1)
}

// P14.1: as many marks as one puts stay: they are no elements that could be alike.
func TestManyMarks(t *testing.T) {
	_, l := made("b")
	for range 8 {
		l.Mark()
	}
	holds(t, l, slices.Repeat([]int{mark}, 8)...)
	push(l, 1)
	holds(t, l, append(slices.Repeat([]int{mark}, 8), 1)...)
}

// P14.1: Clear takes out what is behind the last mark, and that mark; all, if there is none.
func TestClear(t *testing.T) {
	for _, c := range []struct {
		entries string
		left    []int
	}{
		{"", nil},
		{"b", nil},
		{"b i b u", nil},
		{"|", nil},
		{"| |", []int{mark}},
		{"| | |", []int{mark, mark}},
		{"| b i", nil},
		{"b |", []int{1}},
		{"b i |", []int{1, 2}},
		{"b | i", []int{1}},
		{"b i | u a", []int{1, 2}},
		{"b | i | u a", []int{1, mark, 2}},
		{"| b | i", []int{mark, 1}},
		{"| b |", []int{mark, 1}},
		{"b | | i", []int{1, mark}},
		{"b i | |", []int{1, 2, mark}},
	} {
		l := listed(words(c.entries)...)
		l.Clear()
		holds(t, l, c.left...)
		is(t, c.entries, len(l.All()), len(c.left))
		l.Mark()
		holds(t, l, append(c.left, mark)...)
	}
}

// P14.1: one mark after the other; then Clear of an empty list changes nothing, and Push begins anew.
func TestClearOneByOne(t *testing.T) {
	l := listed(words("| b i | u | | a |")...)
	for _, left := range [][]int{{mark, 1, 2, mark, 3, mark, mark, 4}, {mark, 1, 2, mark, 3, mark}, {mark, 1, 2, mark, 3}, {mark, 1, 2}, nil, nil} {
		l.Clear()
		holds(t, l, left...)
	}
	push(l, 4, 1)
	holds(t, l, 4, 1)
	finds(t, l, 2, -1)
	l.Clear()
	holds(t, l)
}

// P14.2: a name that is there once, and more than once: the last one.
func TestLast(t *testing.T) {
	for at, name := range words("b i u a em") {
		last(t, listed(words("b i u a em")...), name, at+1)
	}
	l := listed("b", "i", "b x=1", "u", "b", "i x=1", "u")
	last(t, l, "b", 5)
	last(t, l, "i", 6)
	last(t, l, "u", 7)
	l.Remove(5)
	last(t, l, "b", 3)
	l.Remove(1)
	last(t, l, "b", 3)
	l.Remove(3)
	noLast(t, l, "b")
	last(t, l, "i", 6)
	last(t, listed("b"), "b", 1)
}

// P14.2: names are told as they are; the empty one is no element's, nor a mark's.
func TestLastOfOthers(t *testing.T) {
	others := append(words("x B I bb bi p 1 -1 | * \xff b\x00 root"), "", " ", "b ", " b", "b i", "\x00")
	for _, entries := range []string{"", "b", "b i", "b i b", "|", "| b", "b |", "b | i"} {
		noLast(t, listed(words(entries)...), others...)
	}
	last(t, listed("B", "b x=1", "I"), "B", 1)
	last(t, listed("b", "B"), "b", 1)
	last(t, listed("x-y", "x"), "x-y", 1)
}

// P14.2: what is only ahead of the last mark isn't told, however far ahead.
func TestLastBehindMark(t *testing.T) {
	noLast(t, listed("|"), "b")
	noLast(t, listed("b", "|"), "b")
	noLast(t, listed("b", "i", "|"), "b", "i")
	noLast(t, listed("b", "|", "i"), "b")
	noLast(t, listed("b", "|", "|", "i"), "b")
	noLast(t, listed("|", "b", "|", "i"), "b")
	noLast(t, listed("b", "|", "b", "|"), "b")
	last(t, listed("b", "|", "i"), "i", 2)
	last(t, listed("b", "|", "b"), "b", 2)
	last(t, listed("b", "|", "b", "i"), "b", 2)
	last(t, listed("b", "|", "b", "i", "b", "u"), "b", 4)
	last(t, listed("|", "b"), "b", 1)
	last(t, listed("|", "|", "b", "i"), "b", 1)
	last(t, listed("b", "|", "u", "|", "i", "b"), "i", 3)
	l := listed("b", "i", "|", "i")
	noLast(t, l, "b")
	l.Clear()
	last(t, l, "b", 1)
	last(t, l, "i", 2)
	l.Mark()
	noLast(t, l, "b", "i")
}

// P14.2: what Push, Insert, Replace and Remove change is seen.
func TestLastOfChanged(t *testing.T) {
	a, l := made("b", "i", "b")
	noLast(t, l, "b")
	push(l, 1)
	last(t, l, "b", 1)
	push(l, 2)
	l.Insert(0, 3)
	last(t, l, "b", 1)
	l.Remove(1)
	last(t, l, "b", 3)
	l.Replace(3, add(a, "u"))
	noLast(t, l, "b")
	last(t, l, "u", 4)
	l.Mark()
	l.Insert(2, 1)
	noLast(t, l, "b", "i", "u")
	l.Insert(4, 3)
	last(t, l, "b", 3)
	for range 3 {
		push(l, a.Copy(3))
	}
	last(t, l, "b", 7)
	finds(t, l, 3, -1)
}

// P14.2: places are counted from 0 on, with the marks; what isn't there, or no longer, has the place -1.
func TestFind(t *testing.T) {
	_, l := made(words("b i u a em tt s")...)
	push(l, 4, 2)
	l.Mark()
	push(l, 6, 1)
	l.Mark()
	l.Mark()
	push(l, 3)
	holds(t, l, 4, 2, mark, 6, 1, mark, mark, 3)
	for i, place := range map[int]int{4: 0, 2: 1, 6: 3, 1: 4, 3: 7, 5: -1, 7: -1, 8: -1} {
		finds(t, l, i, place)
	}
	for _, i := range otherNumbers {
		finds(t, l, i, -1)
	}
	l.Remove(6)
	finds(t, l, 6, -1)
	finds(t, l, 1, 3)
	l.Clear()
	finds(t, l, 3, -1)
	l.Replace(2, 7)
	finds(t, l, 2, -1)
	finds(t, l, 7, 1)
	push(l, 2)
	finds(t, l, 2, 5)
}

// P14.2: a mark is no element, wherever one stands: Find doesn't tell it, Remove and Replace don't touch it; nor are other numbers there.
func TestOtherNumbers(t *testing.T) {
	for _, entries := range []string{"", "b", "b i u", "|", "| |", "| b", "b |", "b | i", "b i | | u", "| b | i |"} {
		l := listed(words(entries)...)
		before := l.All()
		for _, i := range append(otherNumbers, list.Mark, len(before)+1) {
			finds(t, l, i, -1)
			l.Remove(i)
			holds(t, l, before...)
			l.Replace(i, 1)
			holds(t, l, before...)
		}
	}
}

// P14.2: each one of some may be taken out; those behind it move up, those ahead of it stay.
func TestRemove(t *testing.T) {
	for most := 1; most <= 6; most++ {
		for gone := 1; gone <= most; gone++ {
			l := listed(words("b i b u a b")[:most]...)
			l.Remove(gone)
			left := append(numbers(1, gone-1), numbers(gone+1, most)...)
			holds(t, l, left...)
			finds(t, l, gone, -1)
			l.Remove(gone)
			holds(t, l, left...)
			l.Mark()
			push(l, gone)
			holds(t, l, append(left, mark, gone)...)
		}
	}
}

// P14.2: taken out ahead of marks and behind them; the marks stay, and what stands behind them counts on.
func TestRemoveAroundMarks(t *testing.T) {
	l := listed("b", "|", "i", "|", "b", "u")
	l.Remove(1)
	holds(t, l, mark, 2, mark, 3, 4)
	l.Remove(3)
	holds(t, l, mark, 2, mark, 4)
	l.Remove(2)
	holds(t, l, mark, mark, 4)
	l.Remove(4)
	holds(t, l, mark, mark)
	noLast(t, l, "b", "i", "u")
	l.Clear()
	holds(t, l, mark)
}

// P14.2: each one of some may be replaced: the other one stands in its place, all others where they stood.
func TestReplace(t *testing.T) {
	for most := 1; most <= 6; most++ {
		for gone := 1; gone <= most; gone++ {
			a, l := made(words("b i b u a b")[:most]...)
			for i := 1; i <= most; i++ {
				l.Insert(i-1, i)
			}
			by := a.Copy(gone)
			l.Replace(gone, by)
			want := numbers(1, most)
			want[gone-1] = by
			holds(t, l, want...)
			finds(t, l, gone, -1)
			l.Replace(gone, a.Copy(by))
			holds(t, l, want...)
			l.Replace(by, gone)
			holds(t, l, numbers(1, most)...)
			finds(t, l, by, -1)
		}
	}
}

// P14.2: one by itself changes nothing; one that isn't there is put nowhere; marks stay where they are, and one ahead of them is replaced likewise.
func TestReplaceOfOthers(t *testing.T) {
	a, l := made("b", "i", "u", "a", "em")
	push(l, 1)
	l.Mark()
	push(l, 2, 3)
	for _, i := range []int{1, 2, 3} {
		l.Replace(i, i)
		holds(t, l, 1, mark, 2, 3)
	}
	for _, i := range append(otherNumbers, 4, a.Copy(1)) {
		l.Replace(i, 5)
		holds(t, l, 1, mark, 2, 3)
		l.Replace(i, 2)
		holds(t, l, 1, mark, 2, 3)
	}
	l.Replace(1, 4)
	holds(t, l, 4, mark, 2, 3)
	l.Replace(3, 1)
	holds(t, l, 4, mark, 2, 1)
	last(t, l, "b", 1)
	noLast(t, l, "a", "u")
	l.Clear()
	last(t, l, "a", 4)
}

// P14.2: Replace doesn't count those alike: more than three may be.
func TestReplaceByAlike(t *testing.T) {
	_, l := made("b", "b", "b", "i", "b")
	push(l, 1, 2, 3, 4)
	l.Replace(4, 5)
	holds(t, l, 1, 2, 3, 5)
}

// P14.2: at each place of some, in an empty list too; those from it on stand behind it, those ahead of it stay.
func TestInsert(t *testing.T) {
	for many := range 6 {
		for place := range many + 1 {
			a, l := made(words("b i b u a b")[:many]...)
			for i := 1; i <= many; i++ {
				l.Insert(i-1, i)
			}
			i := add(a, "s")
			l.Insert(place, i)
			holds(t, l, slices.Concat(numbers(1, place), []int{i}, numbers(place+1, many))...)
			last(t, l, "s", i)
			j := add(a, "s")
			l.Insert(place, j)
			holds(t, l, slices.Concat(numbers(1, place), []int{j, i}, numbers(place+1, many))...)
			last(t, l, "s", i)
			l.Insert(many+2, a.Copy(i))
			finds(t, l, j+1, many+2)
			last(t, l, "s", j+1)
		}
	}
}

// P14.2: ahead of a mark and behind it: marks have places as elements do, and move behind as they do.
func TestInsertAroundMarks(t *testing.T) {
	want := []int{1, mark, mark, 2, mark}
	for place := range len(want) + 1 {
		a, l := made("b", "i", "u")
		push(l, 1)
		l.Mark()
		l.Mark()
		push(l, 2)
		l.Mark()
		l.Insert(place, 3)
		holds(t, l, slices.Insert(slices.Clone(want), place, 3)...)
		if place == len(want) {
			last(t, l, "u", 3)
		} else {
			noLast(t, l, "u")
		}
		noLast(t, l, "b", "i")
		push(l, a.Copy(3))
		last(t, l, "u", 4)
	}
	a, l := made("b", "i")
	l.Mark()
	l.Insert(0, 1)
	holds(t, l, 1, mark)
	noLast(t, l, "b")
	l.Insert(2, 2)
	holds(t, l, 1, mark, 2)
	l.Clear()
	holds(t, l, 1)
	is(t, "copies", a.Copies(), 0)
}

// P14.1: a list takes what is made in its arena later.
func TestMadeLater(t *testing.T) {
	a := arena.New()
	l := list.New(a)
	push(l, add(a, "b x=1"))
	last(t, l, "b", 1)
	a.Append(0, add(a, "p"))
	push(l, a.Copy(1), add(a, "b x=1"))
	l.Insert(1, add(a, "i"))
	last(t, l, "i", 5)
	holds(t, l, 1, 5, 3, 4)
	push(l, a.Copy(4))
	holds(t, l, 5, 3, 4, 6)
	l.Replace(5, add(a, "u"))
	last(t, l, "u", 7)
}

// shown writes out all that an arena tells of the root and of some elements.
func shown(a *arena.Arena, most int) string {
	var b strings.Builder
	var write func(l []api.Node)
	write = func(l []api.Node) {
		for _, n := range l {
			b.WriteString("<" + n.Name + strconv.Quote(n.Text))
			for _, own := range n.Attrs {
				b.WriteString(" " + own.Name + "=" + own.Value)
			}
			write(n.Inner)
			b.WriteString(">")
		}
	}
	for i := range most + 1 {
		b.WriteString(a.Name(i) + " in " + strconv.Itoa(a.Parent(i)) + ": ")
		write(append(a.Nodes(i), api.Node{Attrs: a.Attrs(i)}))
	}
	return b.String() + strconv.Itoa(a.Copies())
}

// P14.1, K5: a list changes nothing in its arena, neither what stands where, nor the order of attributes, nor how many elements there are.
func TestArenaStays(t *testing.T) {
	a, l := made("b x=1 y=2", "b y=2 x=1", "b x=1 y=2", "b y=2 x=1", "i", "u")
	a.Append(0, 1)
	a.Append(1, 2)
	a.Text(2, "t")
	a.Append(2, add(a, "p z=1"))
	a.Append(0, a.Copy(7))
	before := shown(a, 8)
	push(l, 1, 2, 3, 4)
	l.Mark()
	push(l, 5, 1)
	l.Insert(0, 6)
	l.Replace(5, 7)
	l.Remove(2)
	l.Last("b")
	l.Find(3)
	l.All()
	l.Clear()
	l.Clear()
	if got := shown(a, 8); got != before {
		t.Errorf("%s, not %s", got, before)
	}
	is(t, "the next element", add(a, "p"), 9)
}

// P14.1: what becomes of an element in the arena changes nothing in the list.
func TestListStays(t *testing.T) {
	a, l := made("b", "b", "i", "b", "b")
	push(l, 1, 2)
	l.Mark()
	push(l, 3, 4)
	a.Append(4, 1)
	a.Append(0, 3)
	a.Append(3, 4)
	a.Move(4, 0)
	a.Text(4, "t")
	a.Copy(4)
	holds(t, l, 1, 2, mark, 3, 4)
	last(t, l, "b", 4)
	push(l, 5)
	holds(t, l, 1, 2, mark, 3, 4, 5)
}

// K5: what All answered, and its caller changes or makes longer, changes no later answer, no other one, and nothing in the list; and it stays, whatever becomes of the list.
func TestAnswersAreNew(t *testing.T) {
	_, l := made(words("b i u a em")...)
	push(l, 1)
	l.Mark()
	push(l, 2, 3, 4)
	l.Remove(4)
	one, two := l.All(), l.All()
	one = one[:cap(one)]
	for at := range one {
		one[at] = 99
	}
	_ = append(one[:0], 5, 5, 5, 5, 5)
	if !slices.Equal(two, []int{1, mark, 2, 3}) {
		t.Errorf("another answer: %d", two)
	}
	holds(t, l, 1, mark, 2, 3)
	last(t, l, "u", 3)
	l.Replace(2, 5)
	l.Insert(0, 4)
	l.Remove(1)
	holds(t, l, 4, mark, 5, 3)
	if !slices.Equal(two, []int{1, mark, 2, 3}) {
		t.Errorf("answered ahead of the change: %d", two)
	}
	three := l.All()
	_ = append(three, 99)
	push(l, 2)
	holds(t, l, 4, mark, 5, 3, 2)
	l.Clear()
	push(l, 1, 2, 3)
	if !slices.Equal(three, []int{4, mark, 5, 3}) {
		t.Errorf("answered ahead of Clear: %d", three)
	}
}

// K6: two lists of one arena don't touch each other, though the same elements are in both.
func TestListsOfOneArena(t *testing.T) {
	a, one := alike(5)
	two := list.New(a)
	push(one, 1, 2, 3)
	holds(t, two)
	noLast(t, two, "b")
	push(two, 4)
	holds(t, two, 4)
	holds(t, one, 1, 2, 3)
	two.Mark()
	push(two, 2, 1)
	push(one, 5)
	holds(t, one, 2, 3, 5)
	holds(t, two, 4, mark, 2, 1)
	one.Clear()
	holds(t, one)
	holds(t, two, 4, mark, 2, 1)
	push(one, 1)
	two.Remove(1)
	two.Replace(2, 3)
	two.Insert(0, 5)
	holds(t, one, 1)
	last(t, one, "b", 1)
	last(t, two, "b", 3)
	two.Clear()
	two.Clear()
	holds(t, one, 1)
}

// K6: nor do two lists of two arenas, in which the same numbers have other names.
func TestListsOfTwoArenas(t *testing.T) {
	_, one := made("b", "b", "b", "b")
	_, two := made("b", "i", "b x=1", "u")
	push(one, 1, 2, 3, 4)
	push(two, 1, 2, 3, 4)
	holds(t, one, 2, 3, 4)
	holds(t, two, 1, 2, 3, 4)
	last(t, one, "b", 4)
	last(t, two, "b", 3)
	noLast(t, one, "u")
	two.Clear()
	holds(t, one, 2, 3, 4)
	var group sync.WaitGroup
	for range 8 {
		group.Go(func() {
			a, own := made()
			for i := 1; i <= 300; i++ {
				push(own, a.Element("b", attrs("x="+strconv.Itoa(i%10))))
				last(t, own, "b", i)
			}
			holds(t, own, numbers(271, 300)...)
		})
	}
	group.Wait()
}

// K6: the same question answers the same each time, and to ask changes nothing.
func TestSameAgain(t *testing.T) {
	l := listed("b", "|", "i", "b", "u")
	for range 3 {
		holds(t, l, 1, mark, 2, 3, 4)
		last(t, l, "b", 3)
		last(t, l, "i", 2)
		noLast(t, l, "x", "")
		finds(t, l, 1, 0)
		finds(t, l, 7, -1)
		finds(t, l, mark, -1)
	}
}

// P14.1, P14.2: many entries, alike and unlike, with marks and without.
func TestLong(t *testing.T) {
	const many = 1 << 16
	a, l := made()
	for i := 1; i <= many; i++ {
		push(l, add(a, "b"))
	}
	holds(t, l, many-2, many-1, many)
	l.Clear()
	for i := 1; i <= many; i++ {
		l.Insert(i-1, i)
	}
	is(t, "entries", len(l.All()), many)
	finds(t, l, 1, 0)
	finds(t, l, many, many-1)
	push(l, add(a, "b"))
	is(t, "entries", len(l.All()), many)
	finds(t, l, 1, -1)
	finds(t, l, many, many-2)
	l.Insert(0, add(a, "i"))
	last(t, l, "i", many+2)
	for range many {
		l.Mark()
	}
	noLast(t, l, "b", "i")
	for range many {
		l.Clear()
	}
	last(t, l, "i", many+2)
	l.Clear()
	holds(t, l)
}

// K7: places and elements that the chapter doesn't hand in: no call panics, and each ends; places that there aren't change nothing.
func TestOtherArguments(t *testing.T) {
	l := listed("b", "|", "i")
	for _, place := range []int{-1, -2, 4, 5, 1 << 32, math.MaxInt, math.MinInt} {
		l.Insert(place, 3)
		holds(t, l, 1, mark, 2)
	}
	for _, i := range append(otherNumbers, 1) {
		l := listed("b", "|", "i")
		for range 5 {
			push(l, i)
			l.Insert(0, i)
			l.Replace(2, i)
			l.Replace(i, i)
			l.Last("")
			l.Last("x")
			l.All()
			l.Find(i)
			l.Remove(i)
		}
		for range 20 {
			l.Clear()
		}
		is(t, "entries", len(l.All()), 0)
	}
}
