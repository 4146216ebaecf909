package attr_test

import (
	"slices"
	"strconv"
	"strings"
	"sync"
	"testing"

	"decanter/api"
	"decanter/attr"
)

// of makes a list of words such as a=1; a word without = is a name without a value.
func of(words ...string) []api.Attr {
	var l []api.Attr
	for _, word := range words {
		name, value, _ := strings.Cut(word, "=")
		l = append(l, api.Attr{Name: name, Value: value})
	}
	return l
}

// each calls do with every list up to a length, made of some attributes.
func each(some []api.Attr, longest int, do func(l []api.Attr)) {
	var grow func(l []api.Attr)
	grow = func(l []api.Attr) {
		do(l)
		if len(l) == longest {
			return
		}
		for _, a := range some {
			grow(append(l[:len(l):len(l)], a))
		}
	}
	grow(nil)
}

// some are attributes with names and values that are easily taken for each other.
var some = of("=", "=1", "a=", "a=1", "a=2", "A=1", "b=1")

// first is what a list tells of a name, by the model: it is gone through from its end, so that the first one stays.
func first(l []api.Attr, name string) (value string, ok bool) {
	for at := len(l) - 1; at >= 0; at-- {
		if l[at].Name == name {
			value, ok = l[at].Value, true
		}
	}
	return value, ok
}

// same is Same by the chapter's words: each attribute, of whichever list, is asked of the other one.
func same(a, b []api.Attr) bool {
	count := 0
	for _, way := range [][2][]api.Attr{{a, b}, {b, a}} {
		for _, x := range way[0] {
			if value, ok := first(way[1], x.Name); ok && value == x.Value {
				count++
			}
		}
	}
	return len(a) == len(b) && count == len(a)+len(b)
}

// equals checks a list, in order.
func equals(t *testing.T, what string, got, want []api.Attr) {
	t.Helper()
	if !slices.Equal(got, want) {
		t.Errorf("%s: %q, not %q", what, got, want)
	}
}

// adds checks Add.
func adds(t *testing.T, l []api.Attr, a api.Attr, want []api.Attr) {
	t.Helper()
	equals(t, "Add", attr.Add(l, a), want)
}

// gets checks Get.
func gets(t *testing.T, l []api.Attr, name, value string, there bool) {
	t.Helper()
	if got, ok := attr.Get(l, name); got != value || ok != there {
		t.Errorf("Get(%q, %q): %q and %v, not %q and %v", l, name, got, ok, value, there)
	}
}

// alike checks Same, asked either way round.
func alike(t *testing.T, a, b []api.Attr, want bool) {
	t.Helper()
	for _, way := range [][2][]api.Attr{{a, b}, {b, a}} {
		if got := attr.Same(way[0], way[1]); got != want {
			t.Errorf("Same(%q, %q): %v", way[0], way[1], got)
		}
	}
}

// roomy gives a list with room behind its end in which other attributes lie, and all of its memory.
func roomy(l []api.Attr) (list, memory []api.Attr) {
	memory = append(slices.Clone(l), of("behind=1", "behind=2", "behind=3")...)
	return memory[:len(l)], memory
}

// apart checks that what a call made of a list shares no memory with it, up to the capacity of both, and that the call changed nothing of it.
func apart(t *testing.T, l []api.Attr, call func(l []api.Attr) []api.Attr) {
	t.Helper()
	list, memory := roomy(l)
	before := slices.Clone(memory)
	got := call(list)
	equals(t, "what was handed in", memory, before)
	answer := slices.Clone(got)
	for at := range memory {
		memory[at] = api.Attr{Name: "changed", Value: "in"}
	}
	equals(t, "the answer, when what was handed in changes", got, answer)
	in := slices.Clone(memory)
	whole := got[:cap(got)]
	for at := range whole {
		whole[at] = api.Attr{Name: "changed", Value: "out"}
	}
	equals(t, "what was handed in, when the answer changes", memory, in)
	_ = append(got, of("more=1", "more=2")...)
	equals(t, "what was handed in, when the answer grows", memory, in)
}

// P6.1: to nil, to an empty list, and to one with attributes.
func TestAdd(t *testing.T) {
	a := api.Attr{Name: "c", Value: "3"}
	adds(t, nil, a, of("c=3"))
	adds(t, []api.Attr{}, a, of("c=3"))
	adds(t, make([]api.Attr, 0, 4), a, of("c=3"))
	adds(t, of("a=1"), a, of("a=1", "c=3"))
	adds(t, of("a=1", "b=2"), a, of("a=1", "b=2", "c=3"))
	adds(t, of("z=1", "a=2"), a, of("z=1", "a=2", "c=3"))
	adds(t, of("a=3", "b=c"), a, of("a=3", "b=c", "c=3"))
	adds(t, of("a=1"), api.Attr{Name: "b"}, of("a=1", "b"))
}

// P6.1: a name that is there stays with its value, wherever it stands.
func TestAddNameThere(t *testing.T) {
	for _, l := range [][]api.Attr{of("c=3"), of("c=3", "a=1", "b=2"), of("a=1", "c=3", "b=2"), of("a=1", "b=2", "c=3"), of("c=3", "a=1", "c=4"), of("c=3", "c=3")} {
		for _, value := range []string{"3", "4", ""} {
			adds(t, l, api.Attr{Name: "c", Value: value}, l)
		}
	}
	adds(t, of("c"), api.Attr{Name: "c", Value: "3"}, of("c"))
	adds(t, of("a=1", "a=2"), api.Attr{Name: "b", Value: "3"}, of("a=1", "a=2", "b=3"))
}

// P6.1: the empty name is one like others, and letters are told as they are.
func TestAddNames(t *testing.T) {
	empty := api.Attr{Value: "x"}
	adds(t, nil, empty, of("=x"))
	adds(t, of("a=1"), empty, of("a=1", "=x"))
	adds(t, of("=x"), empty, of("=x"))
	adds(t, of("=y", "a=1"), empty, of("=y", "a=1"))
	adds(t, of("="), empty, of("="))
	adds(t, of("=x"), api.Attr{Name: "a", Value: "1"}, of("=x", "a=1"))
	adds(t, of("href=1"), api.Attr{Name: "HREF", Value: "1"}, of("href=1", "HREF=1"))
	adds(t, of("HREF=1"), api.Attr{Name: "href", Value: "2"}, of("HREF=1", "href=2"))
	adds(t, of("a=1"), api.Attr{Name: "a ", Value: "1"}, of("a=1", "a =1"))
	adds(t, of("ab=1"), api.Attr{Name: "a", Value: "1"}, of("ab=1", "a=1"))
	adds(t, of("a=1"), api.Attr{Name: "ab", Value: "1"}, of("a=1", "ab=1"))
	adds(t, of("\xff=1"), api.Attr{Name: "\ufffd", Value: "1"}, of("\xff=1", "\ufffd=1"))
	adds(t, of("\x00=1"), api.Attr{}, of("\x00=1", "="))
	adds(t, of("\u00e9=1"), api.Attr{Name: "e\u0301", Value: "1"}, of("\u00e9=1", "e\u0301=1"))
}

// P6.1, K5: the answer shares no memory with the list, where the name was there and where it wasn't.
func TestAddNewMemory(t *testing.T) {
	for _, l := range [][]api.Attr{nil, of("a=1"), of("a=1", "b=2"), of("b=2", "a=1", "c=3")} {
		for _, a := range of("a=1", "a=9", "new=1", "=") {
			apart(t, l, func(l []api.Attr) []api.Attr { return attr.Add(l, a) })
		}
	}
	list, _ := roomy(of("a=1"))
	one, two := attr.Add(list, api.Attr{Name: "b", Value: "2"}), attr.Add(list, api.Attr{Name: "c", Value: "3"})
	equals(t, "the first one of two", one, of("a=1", "b=2"))
	equals(t, "the second one of two", two, of("a=1", "c=3"))
	three, four := attr.Add(one, api.Attr{Name: "d", Value: "4"}), attr.Add(one, api.Attr{Name: "e", Value: "5"})
	equals(t, "one of an answer", three, of("a=1", "b=2", "d=4"))
	equals(t, "another one of it", four, of("a=1", "b=2", "e=5"))
}

// P6.1: a list that grows one by one, each attribute asked for twice.
func TestAddMany(t *testing.T) {
	const many = 500
	var l, want []api.Attr
	for i := range many {
		a := api.Attr{Name: "n" + strconv.Itoa(i), Value: strconv.Itoa(i)}
		want = append(want, a)
		l = attr.Add(attr.Add(l, a), api.Attr{Name: a.Name, Value: "again"})
	}
	equals(t, "many", l, want)
	for i := range many {
		gets(t, l, "n"+strconv.Itoa(i), strconv.Itoa(i), true)
	}
	gets(t, l, "n"+strconv.Itoa(many), "", false)
}

// P6.1: a name that is there once, several times, or not at all.
func TestGet(t *testing.T) {
	l := of("a=1", "b=2", "c=3")
	gets(t, l, "a", "1", true)
	gets(t, l, "b", "2", true)
	gets(t, l, "c", "3", true)
	for _, name := range []string{"d", "", "A", "B", "ab", "a ", " a", "a\x00", "1", "a=1", "\xff"} {
		gets(t, l, name, "", false)
	}
	gets(t, of("a=1", "a=2"), "a", "1", true)
	gets(t, of("a=2", "a=1"), "a", "2", true)
	gets(t, of("b=0", "a=2", "b=3", "a=1", "a=3"), "a", "2", true)
	gets(t, of("A=1", "a=2", "A=3"), "a", "2", true)
	gets(t, of("A=1", "a=2", "A=3"), "A", "1", true)
	for _, none := range [][]api.Attr{nil, {}, make([]api.Attr, 0, 3)} {
		gets(t, none, "a", "", false)
		gets(t, none, "", "", false)
	}
}

// P6.1: the empty name, and a value that is nothing: it is told from none.
func TestGetNothing(t *testing.T) {
	gets(t, of("a=1", "=2", "=3"), "", "2", true)
	gets(t, of("="), "", "", true)
	gets(t, of("a"), "a", "", true)
	gets(t, of("b=1", "a", "a=2"), "a", "", true)
	gets(t, of("a"), "b", "", false)
	gets(t, of("a"), "", "", false)
	gets(t, of("b=a"), "a", "", false)
}

// P6.1: attributes behind a list's end, in its memory alone, are none of its.
func TestGetStaysWithinLength(t *testing.T) {
	list, _ := roomy(of("a=1"))
	gets(t, list, "behind", "", false)
	gets(t, list[:0], "a", "", false)
	adds(t, list, api.Attr{Name: "behind", Value: "9"}, of("a=1", "behind=9"))
}

// P6.2: the chapter's example.
func TestExample(t *testing.T) {
	alike(t, of("a=1", "b=2"), of("b=2", "a=1"), true)
}

// P6.2: lists in which each name is there once.
func TestSame(t *testing.T) {
	for _, none := range [][]api.Attr{nil, {}, make([]api.Attr, 0, 3)} {
		alike(t, nil, none, true)
		alike(t, []api.Attr{}, none, true)
		for _, one := range [][]api.Attr{of("a=1"), of("a"), of("="), of("a=1", "b=2")} {
			alike(t, none, one, false)
		}
	}
	l := of("a=1", "b=2", "c=3")
	for _, other := range [][]api.Attr{of("a=1", "b=2", "c=3"), of("a=1", "c=3", "b=2"), of("b=2", "a=1", "c=3"), of("b=2", "c=3", "a=1"), of("c=3", "a=1", "b=2"), of("c=3", "b=2", "a=1")} {
		alike(t, l, other, true)
	}
	for _, other := range [][]api.Attr{
		of("a=1", "b=2"), of("b=2", "c=3"), of("a=1", "b=2", "c=3", "d=4"), of("d=4", "a=1", "b=2", "c=3"), of("a=1", "b=2", "c=3", "="),
		of("a=2", "b=2", "c=3"), of("a=1", "b=1", "c=3"), of("a=1", "b=2", "c=2"), of("a=1", "b=2", "c"), of("a=2", "b=3", "c=1"),
		of("x=1", "b=2", "c=3"), of("a=1", "x=2", "c=3"), of("a=1", "b=2", "x=3"), of("a=1", "b=2", "=3"), of("A=1", "b=2", "c=3"), of("a=1", "b=2", "c =3"),
	} {
		alike(t, l, other, false)
	}
	alike(t, of("a=x"), of("a=X"), false)
	alike(t, of("a="), of("=a"), false)
	alike(t, of("="), of("="), true)
	alike(t, of("=", "a"), of("a", "="), true)
	alike(t, of("a"), of("b"), false)
	alike(t, of("a=\xff"), of("a=\ufffd"), false)
}

// P6.2: lists in which a name is there twice: what the other list tells of it is its first one's value.
func TestSameTwice(t *testing.T) {
	alike(t, of("a=1", "a=1"), of("a=1", "a=1"), true)
	alike(t, of("a=1", "b=2", "a=1"), of("b=2", "a=1", "a=1"), true)
	alike(t, of("a=1", "a=1", "b=2"), of("a=1", "b=2", "b=2"), true)
	alike(t, of("a=1", "a=1"), of("a=1"), false)
	alike(t, of("a=1", "a=1"), of("a=1", "b=2"), false)
	alike(t, of("a=1", "a=1"), of("a=1", "b=1"), false)
	alike(t, of("a=1", "a=1", "b=2"), of("a=1", "b=2", "c=3"), false)
	alike(t, of("a=1", "a=1"), of("a=2", "a=2"), false)
	alike(t, of("a=1", "a=2"), of("a=2", "a=1"), false)
	alike(t, of("a=1", "a=1"), of("a=1", "a=2"), false)
	alike(t, of("a=1", "a=1"), of("a=2", "a=1"), false)
	alike(t, of("a=1", "a=2"), of("a=1", "a=2"), false)
	alike(t, of("=", "="), of("=", "a="), false)
}

// P6.2: a list is asked without what lies behind its end, and stays as it was.
func TestSameStaysWithinLength(t *testing.T) {
	a, memory := roomy(of("b=2", "a=1"))
	before := slices.Clone(memory)
	alike(t, a, of("a=1", "b=2"), true)
	alike(t, a, memory, false)
	alike(t, a[:1], of("b=2"), true)
	alike(t, a[:0], nil, true)
	alike(t, a, a, true)
	equals(t, "what was handed in", memory, before)
}

// P6.2: true of all, of none, of some; in order.
func TestKeep(t *testing.T) {
	l := of("c=3", "a=1", "b=2", "a=4", "=", "c=3")
	for _, x := range []struct {
		may  func(a api.Attr) bool
		want []api.Attr
	}{
		{func(api.Attr) bool { return true }, l},
		{func(api.Attr) bool { return false }, nil},
		{func(a api.Attr) bool { return a.Name == "a" }, of("a=1", "a=4")},
		{func(a api.Attr) bool { return a.Name != "a" }, of("c=3", "b=2", "=", "c=3")},
		{func(a api.Attr) bool { return a.Name == "c" }, of("c=3", "c=3")},
		{func(a api.Attr) bool { return a.Name != "c" }, of("a=1", "b=2", "a=4", "=")},
		{func(a api.Attr) bool { return a.Value == "1" || a.Value == "2" }, of("a=1", "b=2")},
		{func(a api.Attr) bool { return a == api.Attr{} }, of("=")},
		{func(a api.Attr) bool { return a.Name == "nowhere" }, nil},
	} {
		equals(t, "Keep", attr.Keep(l, x.may), x.want)
		if got := attr.Keep(nil, x.may); len(got) != 0 {
			t.Errorf("of nil: %q", got)
		}
		if got := attr.Keep([]api.Attr{}, x.may); len(got) != 0 {
			t.Errorf("of an empty list: %q", got)
		}
		apart(t, l, func(l []api.Attr) []api.Attr { return attr.Keep(l, x.may) })
		apart(t, nil, func(l []api.Attr) []api.Attr { return attr.Keep(l, x.may) })
	}
}

// P6.2: each attribute is asked of once, in order, whatever is answered; also of one that is there twice.
func TestKeepAsksOnce(t *testing.T) {
	l := of("b=2", "a=1", "a=1", "c=3", "a=2", "=")
	list, _ := roomy(l)
	for answers := range 1 << len(l) {
		var asked, want []api.Attr
		got := attr.Keep(list, func(a api.Attr) bool {
			asked = append(asked, a)
			return answers>>(len(asked)-1)&1 == 1
		})
		for at, a := range l {
			if answers>>at&1 == 1 {
				want = append(want, a)
			}
		}
		equals(t, "asked of", asked, l)
		equals(t, "Keep", got, want)
	}
	for _, none := range [][]api.Attr{nil, {}, list[:0]} {
		attr.Keep(none, func(a api.Attr) bool {
			t.Errorf("asked of %q", a)
			return true
		})
	}
}

// P6.1, P6.2: all short lists, by the model.
func TestShortLists(t *testing.T) {
	each(some, 3, func(l []api.Attr) {
		for _, a := range some {
			value, ok := first(l, a.Name)
			gets(t, l, a.Name, value, ok)
			want := slices.Clone(l)
			if !ok {
				want = append(want, a)
			}
			adds(t, l, a, want)
		}
	})
	each(some, 3, func(a []api.Attr) {
		each(some, 3, func(b []api.Attr) {
			if got, want := attr.Same(a, b), same(a, b); got != want {
				t.Errorf("Same(%q, %q): %v", a, b, got)
			}
		})
	})
}

// K6: a call answers the same each time, whoever calls beside it.
func TestSameAgain(t *testing.T) {
	l, _ := roomy(of("a=1", "b=2"))
	var all sync.WaitGroup
	for range 8 {
		all.Go(func() {
			for range 100 {
				equals(t, "Add", attr.Add(l, api.Attr{Name: "c", Value: "3"}), of("a=1", "b=2", "c=3"))
				equals(t, "Keep", attr.Keep(l, func(a api.Attr) bool { return a.Name == "b" }), of("b=2"))
				gets(t, l, "b", "2", true)
				alike(t, l, of("b=2", "a=1"), true)
			}
		})
	}
	all.Wait()
}
