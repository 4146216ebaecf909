package adopt_test

import (
	"slices"
	"strconv"
	"strings"
	"sync"
	"testing"

	"decanter/adopt"
	"decanter/arena"
	"decanter/list"
	"decanter/stack"
)

// want is what Again answers, and what there is then: nodes, what is open, what is listed, and how many copies.
type want struct {
	done                bool
	nodes, open, listed string
	copies              int
}

// row is a scene, a name that Again is asked for, and what is wanted.
type row struct {
	open, listed, name string
	want               want
}

// does checks one Again against what is wanted, and against the model.
func (c *scene) does(t *testing.T, name string, w want) {
	t.Helper()
	if done := c.again(t, name); done != w.done {
		t.Errorf("Again of %q: %t", name, done)
	}
	if got := show(c.a.Nodes(0)); got != w.nodes {
		t.Errorf("nodes: %s, not %s", got, w.nodes)
	}
	if got := numbers(c.s.All()); got != w.open {
		t.Errorf("open: %s, not %s", got, w.open)
	}
	if got := numbers(c.l.All()); got != w.listed {
		t.Errorf("listed: %s, not %s", got, w.listed)
	}
	if got := c.a.Copies(); got != w.copies {
		t.Errorf("copies: %d, not %d", got, w.copies)
	}
}

// run checks Again of each of some rows.
func run(t *testing.T, rows ...row) {
	t.Helper()
	for _, r := range rows {
		set(r.open, r.listed).does(t, r.name, r.want)
		if t.Failed() {
			t.Fatalf("open: %s; listed: %s; name: %q", r.open, r.listed, r.name)
		}
	}
}

// stays checks that Again of a name answers this, and changes nothing.
func stays(t *testing.T, open, listed, name string, done bool) {
	t.Helper()
	c := set(open, listed)
	run(t, row{open, listed, name, want{done, show(c.a.Nodes(0)), numbers(c.s.All()), numbers(c.l.All()), 0}})
}

// P15.1: the chapter's example.
func TestExample(t *testing.T) {
	run(t, row{"b p 'x", "1", "b", want{true, "b p(b('x))", "2", "", 1}})
}

// P15.1, step 1: the innermost element has the name and isn't in the list: it is closed, whatever its kind.
func TestClosesTop(t *testing.T) {
	run(t,
		row{"b 'x", "", "b", want{true, "b('x)", "", "", 0}},
		row{"div b 'x", "", "b", want{true, "div(b('x))", "1", "", 0}},
		row{"i b", "1 |", "b", want{true, "i(b)", "1", "1 |", 0}},
		row{"b/x=1", "", "b", want{true, "b/x=1", "", "", 0}},
		row{"div p", "", "p", want{true, "div(p)", "1", "", 0}},
		row{"p table", "", "table", want{true, "p(table)", "1", "", 0}},
		row{"p x-y", "", "x-y", want{true, "p(x-y)", "1", "", 0}},
		row{"b B", "1", "B", want{true, "b(B)", "1", "1", 0}},
	)
}

// P15.1, step 1: all is done by it, though others of the name are open, and in the list, and though elements of the kinds Special and Scope stand between.
func TestClosesTopAlone(t *testing.T) {
	run(t,
		row{"b b b", "", "b", want{true, "b(b(b))", "1 2", "", 0}},
		row{"b b", "1", "b", want{true, "b(b)", "1", "1", 0}},
		row{"b p b 'x", "1", "b", want{true, "b(p(b('x)))", "1 2", "1", 0}},
		row{"b table b", "1", "b", want{true, "b(table(b))", "1 2", "1", 0}},
		row{"b (b ) b", "2 1", "b", want{true, "b(b b)", "1", "2 1", 0}},
		row{"b i b", "1 2 |", "b", want{true, "b(i(b))", "1 2", "1 2 |", 0}},
	)
}

// P15.1, step 1: the innermost element has the name, but is in the list, behind the last mark or ahead of it: the second step tells what becomes of it.
func TestListedTop(t *testing.T) {
	stays(t, "b", "1 |", "b", false)
	stays(t, "b b", "1 2 |", "b", false)
	stays(t, "i b", "2 | 1", "b", false)
	run(t,
		row{"b", "1", "b", want{true, "b", "", "", 0}},
		row{"b b 'x", "2", "b", want{true, "b(b('x))", "1", "", 0}},
		row{"b b", "2 1", "b", want{true, "b(b)", "", "2", 0}},
		row{"b b", "2 | 1", "b", want{true, "b(b)", "", "2 |", 0}},
		row{"b p b", "3 1", "b", want{true, "b p(b(b))", "2", "3", 1}},
	)
}

// P15.1, step 1: the innermost element has another name; letters are told as they are, and one further out isn't asked.
func TestOtherTop(t *testing.T) {
	for _, name := range append(words("b B I bi ii p div root \x00 i/"), "", " ", "i ") {
		stays(t, "b i", "", name, false)
		stays(t, "b i (p", "", name, false)
		stays(t, "p b i", "3 |", name, false)
	}
}

// P15.1: nothing is open: the root is no open element, though its name is the empty one.
func TestNothingOpen(t *testing.T) {
	for _, name := range []string{"", "b", "p"} {
		stays(t, "", "", name, false)
		stays(t, "(b 'x", "", name, false)
		stays(t, "'x", "|", name, false)
		stays(t, "(b", "1 |", name, false)
	}
	stays(t, "(b", "1", "", false)
	run(t,
		row{"(b 'x", "1", "b", want{true, "b('x)", "", "", 0}},
		row{"-b", "1", "b", want{true, "", "", "", 0}},
	)
}

// P15.1, step 2.1: no element of the name is in the list, or ahead of its last mark alone: it isn't done, and nothing is changed (K4).
func TestNoneListed(t *testing.T) {
	for _, name := range append(words("b i u p span x B"), "") {
		stays(t, "s 'x p 'y (em ) section", "1 3", name, false)
		stays(t, "s b i u p span s", "1 7", name, false)
	}
	stays(t, "b p", "1 |", "b", false)
	stays(t, "b p i", "1 | 3", "b", false)
	stays(t, "b p i", "1 | 3 |", "i", false)
	stays(t, "b i p", "1 2 | |", "b", false)
	stays(t, "b (b ) p", "2 1 |", "b", false)
	stays(t, "b table", "1 |", "b", false)
	stays(t, "b i", "1 |", "b", false)
}

// P15.1, step 2.1: a name of no element of the kind Format is none in the list: it isn't done, unless step 1 does it; nor is the empty name.
func TestNamesOfOtherKinds(t *testing.T) {
	for _, name := range words(specialNames + " span label abbr option rb x") {
		stays(t, "b i u", "1 2 3", name, false)
		stays(t, "b "+name+" i", "1 3", name, false)
		run(t, row{"b " + name, "1", name, want{true, "b(" + name + ")", "1", "1", 0}})
	}
	stays(t, "b i u", "1 2 3", "", false)
	stays(t, "b p u", "1 | 3", "", false)
}

// P15.1, step 2.1: all names of the kind Format are sought in the list.
func TestNamesOfFormat(t *testing.T) {
	for _, name := range words(formatNames) {
		run(t,
			row{name + " p 'x", "1", name, want{true, name + " p(" + name + "('x))", "2", "", 1}},
			row{"label " + name + "/x=1 span", "2", name, want{true, "label(" + name + "/x=1(span))", "1", "", 0}},
		)
	}
}

// P15.1, step 2.2: the last one of the name isn't open: it is taken out of the list, and all is done; those ahead of it and behind it stay.
func TestNotOpen(t *testing.T) {
	run(t,
		row{"(b 'x ) p 'y", "1", "b", want{true, "b('x) p('y)", "2", "", 0}},
		row{"i (b ) u", "1 2 3", "b", want{true, "i(b u)", "1 3", "1 3", 0}},
		row{"i (b ) u", "1 3 2", "b", want{true, "i(b u)", "1 3", "1 3", 0}},
		row{"i (b ) u", "2 3 1", "b", want{true, "i(b u)", "1 3", "3 1", 0}},
		row{"i (b ) u", "1 | 2 3", "b", want{true, "i(b u)", "1 3", "1 | 3", 0}},
		row{"i (b ) u", "1 | | 2", "b", want{true, "i(b u)", "1 3", "1 | |", 0}},
		row{"-b p table", "1", "b", want{true, "p(table)", "2 3", "", 0}},
	)
}

// P15.1, step 2.2: others of the name, that are open or not, and in the list ahead of it, stay as they are.
func TestNotOpenOfTwo(t *testing.T) {
	run(t,
		row{"b p (b )", "1 3", "b", want{true, "b(p(b))", "1 2", "1", 0}},
		row{"(b ) b p 'x", "2 1", "b", want{true, "b b(p('x))", "2 3", "2", 0}},
		row{"b (b ) (b ) i", "1 2 3 4", "b", want{true, "b(b b i)", "1 4", "1 2 4", 0}},
		row{"b (b/x=1 ) i -u", "1 4 2", "b", want{true, "b(b/x=1 i)", "1 3", "1 4", 0}},
	)
}

// P15.1, step 2.3: an element of the kind Scope behind F, right behind it, as the last one, or elsewhere: all is done, and nothing is changed.
func TestScopeWithin(t *testing.T) {
	for _, scope := range words(scopeNames) {
		for _, open := range []string{"b S", "b S p", "b p S", "b u p S", "b p S u", "b u S p", "b i S p u", "b i p u S div", "b S S"} {
			open = strings.ReplaceAll(open, "S", scope)
			stays(t, open, "1", "b", true)
			stays(t, open, "| 1", "b", true)
			stays(t, "div 'w "+open+" 'x", "2", "b", true)
			if strings.HasPrefix(open, "b i") {
				stays(t, open, "1 2", "b", true)
				stays(t, open, "2 1", "b", true)
			}
		}
	}
}

// P15.1, step 2.3: an element of the kind Scope that isn't behind F in the stack counts for nothing: it is ahead of it, or isn't open.
func TestScopeElsewhere(t *testing.T) {
	for _, scope := range words(scopeNames) {
		run(t,
			row{scope + " b", "2", "b", want{true, scope + "(b)", "1", "", 0}},
			row{scope + " b p", "2", "b", want{true, scope + "(b p(b))", "1 3", "", 1}},
			row{scope + " div b i p", "3 4", "b", want{true, scope + "(div(b(i) i(p(b))))", "1 2 6 5", "6", 2}},
			row{"b (" + scope + " p", "1", "b", want{true, "b(" + scope + ") p(b)", "3", "", 1}},
			row{"b (" + scope + " i", "1", "b", want{true, "b(" + scope + "(i))", "", "", 0}},
			row{"b p (" + scope + " 'x", "1", "b", want{true, "b p(b(" + scope + "('x)))", "2", "", 1}},
		)
	}
}

// P15.1, step 2.4: no element of the kind Special is behind F: F and all behind it are closed, and F alone is taken out of the list.
func TestNoneSpecialWithin(t *testing.T) {
	run(t,
		row{"b 'x", "1", "b", want{true, "b('x)", "", "", 0}},
		row{"div b 'x", "2", "b", want{true, "div(b('x))", "1", "", 0}},
		row{"b i", "1 2", "b", want{true, "b(i)", "", "2", 0}},
		row{"b i", "2 1", "b", want{true, "b(i)", "", "2", 0}},
		row{"b i", "1", "b", want{true, "b(i)", "", "", 0}},
		row{"b span", "1", "b", want{true, "b(span)", "", "", 0}},
		row{"p i b u span 'x em", "2 3 4 6", "b", want{true, "p(i(b(u(span('x em)))))", "1 2", "2 4 6", 0}},
		row{"p i b u span 'x em", "2 | 6 3 4", "b", want{true, "p(i(b(u(span('x em)))))", "1 2", "2 | 6 4", 0}},
		row{"i b u em tt", "1 2 3 4 5", "i", want{true, "i(b(u(em(tt))))", "", "2 3 4 5", 0}},
	)
}

// P15.1, step 2.4: of several elements of the name that one is closed that is the list's last one; others of the name stand ahead of it and behind it, in the list or not.
func TestNoneSpecialWithinOfTwo(t *testing.T) {
	run(t,
		row{"b b", "1 2", "b", want{true, "b(b)", "1", "1", 0}},
		row{"b b i", "1 2 3", "b", want{true, "b(b(i))", "1", "1 3", 0}},
		row{"b b i", "2 1", "b", want{true, "b(b(i))", "", "2", 0}},
		row{"b b i", "1 3", "b", want{true, "b(b(i))", "", "3", 0}},
		row{"b i b u", "1 2 4", "b", want{true, "b(i(b(u)))", "", "2 4", 0}},
		row{"b p b i", "1 3 4", "b", want{true, "b(p(b(i)))", "1 2", "1 4", 0}},
	)
}

// P15.1, step 2.4: an element of the kind Special that isn't behind F in the stack counts for nothing, nor do those of other kinds.
func TestSpecialElsewhere(t *testing.T) {
	for _, name := range words(specialNames) {
		run(t,
			row{name + " b i", "2 3", "b", want{true, name + "(b(i))", "1", "3", 0}},
			row{"b (" + name + " i", "1 3", "b", want{true, "b(" + name + "(i))", "", "3", 0}},
		)
	}
	for _, name := range words("a abbr bdi big cite code del em font i ins kbd label nobr optgroup option q rb rp rt rtc s samp small span strike strong sub sup time tt u var video x P") {
		run(t, row{"p b " + name + " 'x", "2", "b", want{true, "p(b(" + name + "('x)))", "1", "", 0}})
	}
}

// P15.1, step 2.4: each element of the kind Special, that isn't a Scope, is B.
func TestSpecialWithin(t *testing.T) {
	for _, name := range words(specialNames) {
		if slices.Contains(words(scopeNames), name) {
			continue
		}
		run(t,
			row{"b " + name + " 'x", "1", "b", want{true, "b " + name + "(b('x))", "2", "", 1}},
			row{"div b 'x " + name + " i 'y", "2 4", "b", want{true, "div(b('x) " + name + "(b(i('y))))", "1 3", "4", 1}},
		)
	}
}

// P15.1, step 2.4: B is the first one behind F that is Special and open; what is behind it doesn't matter.
func TestFirstSpecial(t *testing.T) {
	run(t,
		row{"b p i 'x", "1 3", "b", want{true, "b p(b(i('x)))", "2", "3", 1}},
		row{"b i p u p 'x", "1 2 4", "b", want{true, "b(i) i(p(b(u) u(p(b('x)))))", "6 3 8 5", "6 8", 4}},
		row{"b (p i div 'x", "1 3", "b", want{true, "b(p(i)) i(div(b('x)))", "5 4", "5", 2}},
		row{"b p (div 'x", "1", "b", want{true, "b p(b(div('x)))", "2", "", 1}},
	)
}

// P15.1, steps 2.5 and 2.7: C is the element ahead of F, or the root.
func TestOuter(t *testing.T) {
	run(t,
		row{"'x b p 'y", "1", "b", want{true, "'x b p(b('y))", "2", "", 1}},
		row{"div 'x b p 'y", "2", "b", want{true, "div('x b p(b('y)))", "1 3", "", 1}},
		row{"p div 'x (i ) b p 'y", "4", "b", want{true, "p(div('x i b p(b('y))))", "1 2 5", "", 1}},
		row{"u b p", "1 2", "b", want{true, "u(b p(b))", "1 3", "1", 1}},
		row{"u b p", "2", "b", want{true, "u(b p(b))", "1 3", "", 1}},
		row{"b p b p", "3", "b", want{true, "b(p(b p(b)))", "1 2 4", "", 1}},
	)
}

// P15.1, steps 2.5 and 2.7: C is told by the stack, whatever else F and B stand in.
func TestOuterIsOpen(t *testing.T) {
	run(t,
		row{"div (span 'y b p 'x", "3", "b", want{true, "div(span('y b) p(b('x)))", "1 4", "", 1}},
		row{"(span b p 'x", "2", "b", want{true, "span(b) p(b('x))", "3", "", 1}},
		row{"b (span 'y (u p 'x", "1", "b", want{true, "b(span('y u)) p(b('x))", "4", "", 1}},
		row{"b (span i (u p 'x", "1 3", "b", want{true, "b(span(i(u))) i(p(b('x)))", "6 5", "6", 2}},
	)
}

// P15.1, step 2.7: what is put into C stands behind all that stands there, also behind what stands behind F, and nowhere else.
func TestOuterHasMore(t *testing.T) {
	c := set("div b 'f p 'x", "2")
	c.text(1, "behind")
	c.does(t, "b", want{true, "div(b('f) 'behind p(b('x)))", "1 3", "", 1})
	c = set("b 'f p 'x", "1")
	c.put(0, c.element("u"))
	c.text(0, "behind")
	c.does(t, "b", want{true, "b('f) u 'behind p(b('x))", "2", "", 1})
	c = set("div b 'f i 'g p 'x", "2 3")
	c.text(3, "h")
	c.text(2, "k")
	c.put(1, c.element("u"))
	c.does(t, "b", want{true, "div(b('f i('g 'h) 'k) u i(p(b('x))))", "1 6 4", "6", 2})
}

// eight is as many elements of the kind Special, one in the other. A b ahead of them, in the list, is done eight times: then inEight stands where they stood, and the last copy of the b is still in the list, where the first turn put it.
const (
	eight   = " p p p p p p p p"
	inEight = "p(b p(b p(b p(b p(b p(b p(b p(b))))))))"
)

// P15.1, steps 2.5 and 2.8: with no element between F and B the copy stands in F's place, be it the first one, one in the middle, or the last one.
func TestBookmark(t *testing.T) {
	for _, listed := range []string{"3", "3 1 2", "1 3 2", "1 2 3", "| 3 1 2", "1 | 3 2", "1 2 | 3", "2 1 | | 3"} {
		run(t, row{"i u b" + eight, listed, "b", want{true, "i(u(b " + inEight + "))", "1 2 4 5 6 7 8 9 10 11 19", strings.ReplaceAll(listed, "3", "19"), 8}})
	}
}

// P15.1, step 2.6: no element between F and B; one that isn't in the list is taken out of the stack, and nothing else becomes of it; one, two and three in the list are copied.
func TestUpToThreeBetween(t *testing.T) {
	run(t,
		row{"b" + eight, "1", "b", want{true, "b " + inEight, "2 3 4 5 6 7 8 9 17", "17", 8}},
		row{"b i 'x" + eight, "1", "b", want{true, "b(i('x)) " + inEight, "3 4 5 6 7 8 9 10 18", "18", 8}},
		row{"b i 'x span 'y" + eight, "1", "b", want{true, "b(i('x span('y))) " + inEight, "4 5 6 7 8 9 10 11 19", "19", 8}},
		row{"b i 'x" + eight, "1 2", "b", want{true, "b(i('x)) i(" + inEight + ")", "11 3 4 5 6 7 8 9 10 19", "11 19", 9}},
		row{"b i 'x u 'y" + eight, "1 2 3", "b", want{true, "b(i('x u('y))) i(u(" + inEight + "))", "13 12 4 5 6 7 8 9 10 11 21", "13 12 21", 10}},
		row{"b i u em" + eight, "1 2 3 4", "b", want{true, "b(i(u(em))) i(u(em(" + inEight + ")))", "15 14 13 5 6 7 8 9 10 11 12 23", "15 14 13 23", 11}},
		row{"b i u em" + eight, "1 3", "b", want{true, "b(i(u(em))) u(" + inEight + ")", "13 5 6 7 8 9 10 11 12 21", "13 21", 9}},
		row{"b i u em" + eight, "1 2 4", "b", want{true, "b(i(u(em))) i(em(" + inEight + "))", "14 13 5 6 7 8 9 10 11 12 22", "14 13 22", 10}},
	)
}

// P15.1, step 2.6: from the fourth one on, counted from B outwards, those in the list are taken out of the list and of the stack; those that aren't in the list count too.
func TestMoreBetween(t *testing.T) {
	run(t,
		row{"b i u em a" + eight, "1 2 3 4 5", "b", want{true, "b(i(u(em(a)))) u(em(a(" + inEight + ")))", "16 15 14 6 7 8 9 10 11 12 13 24", "16 15 14 24", 11}},
		row{"b i u em a s" + eight, "1 2 3 4 5 6", "b", want{true, "b(i(u(em(a(s))))) em(a(s(" + inEight + ")))", "17 16 15 7 8 9 10 11 12 13 14 25", "17 16 15 25", 11}},
		row{"b i u em a s tt" + eight, "1 2 3 4 5 6 7", "b", want{true, "b(i(u(em(a(s(tt)))))) a(s(tt(" + inEight + ")))", "18 17 16 8 9 10 11 12 13 14 15 26", "18 17 16 26", 11}},
		row{"b i span u em" + eight, "1 2 4 5", "b", want{true, "b(i(span(u(em)))) u(em(" + inEight + "))", "15 14 6 7 8 9 10 11 12 13 23", "15 14 23", 10}},
		row{"b i u em span" + eight, "1 2 3 4", "b", want{true, "b(i(u(em(span)))) u(em(" + inEight + "))", "15 14 6 7 8 9 10 11 12 13 23", "15 14 23", 10}},
		row{"b span u em a" + eight, "1 3 4 5", "b", want{true, "b(span(u(em(a)))) u(em(a(" + inEight + ")))", "16 15 14 6 7 8 9 10 11 12 13 24", "16 15 14 24", 11}},
		row{"b i span label q" + eight, "1 2", "b", want{true, "b(i(span(label(q)))) " + inEight, "6 7 8 9 10 11 12 13 21", "21", 8}},
	)
}

// P15.1, step 2.6: the bookmark is the place behind the first copy's, wherever F's place is; another entry (1, which isn't open) shows where that is.
func TestBookmarkBehindFirstCopy(t *testing.T) {
	for _, c := range [][2]string{
		{"2 3", "12 20"}, {"3 2", "12 20"},
		{"2 3 1", "12 20 1"}, {"2 1 3", "1 12 20"}, {"3 2 1", "12 20 1"}, {"3 1 2", "12 20 1"}, {"1 2 3", "1 12 20"}, {"1 3 2", "1 12 20"},
		{"| 2 3 1", "| 12 20 1"}, {"1 | 3 2", "1 | 12 20"}, {"1 | 2 3", "1 | 12 20"},
	} {
		run(t, row{"(u ) b i" + eight, c[0], "b", want{true, "u b(i) i(" + inEight + ")", "12 4 5 6 7 8 9 10 11 20", c[1], 9}})
	}
}

// P15.1, step 2.6: the second copy and the third one leave the bookmark where it is: the list has the elements between in all orders, F in front, in the middle or behind. The first copy's number is 13, those of the others are 14 and 15.
func TestBookmarkStaysByLaterCopies(t *testing.T) {
	as := map[string]string{"2": "15", "3": "14", "4": "13 23"}
	for _, order := range orders(words("2 3 4")) {
		if len(order) < 3 {
			continue
		}
		var left []string
		for _, word := range order {
			left = append(left, as[word])
		}
		for at := range 4 {
			listed := strings.Join(slices.Insert(slices.Clone(order), at, "1"), " ")
			run(t, row{"b i u em" + eight, listed, "b", want{true, "b(i(u(em))) i(u(em(" + inEight + ")))", "15 14 13 5 6 7 8 9 10 11 12 23", strings.Join(left, " "), 11}})
		}
	}
}

// P15.1, step 2.6: where the fourth one, and the fifth one, stand below the bookmark it is one less for each; where they don't it stays, also where one stands right at it. Another entry (1, which isn't open) shows where it is.
func TestBookmarkAndFourth(t *testing.T) {
	// i (3) is the fourth one; the copies of a (6), em (5) and u (4) are 15, 16 and 17, and F's last copy is 25
	for _, c := range [][2]string{
		{"2 3 4 5 6 1", "17 16 15 25 1"},
		{"2 4 5 6 3 1", "17 16 15 25 1"},
		{"2 4 5 6 1 3", "17 16 15 25 1"},
		{"2 6 1 5 4 3", "15 25 1 16 17"},
		{"2 6 3 1 5 4", "15 25 1 16 17"},
		{"3 6 1 5 4 2", "15 25 1 16 17"},
		{"6 3 2 1 5 4", "15 25 1 16 17"},
		{"6 2 3 1 5 4", "15 25 1 16 17"},
		{"1 3 6 2 4 5", "1 15 25 17 16"},
		{"3 1 6 4 2 5", "1 15 25 17 16"},
		{"3 1 | 2 4 5 6", "1 | 17 16 15 25"},
	} {
		run(t, row{"(s ) b i u em a" + eight, c[0], "b", want{true, "s b(i(u(em(a)))) u(em(a(" + inEight + ")))", "17 16 15 7 8 9 10 11 12 13 14 25", c[1], 11}})
	}
	// tt (4) is the fourth one, i (3) the fifth one
	for _, c := range [][2]string{
		{"2 3 4 5 6 7 1", "18 17 16 26 1"},
		{"3 4 7 1 2 5 6", "16 26 1 18 17"},
		{"4 7 1 3 2 5 6", "16 26 1 18 17"},
		{"4 7 3 1 2 5 6", "16 26 1 18 17"},
		{"7 4 3 1 2 5 6", "16 26 1 18 17"},
		{"1 2 7 3 5 4 6", "1 16 26 18 17"},
	} {
		run(t, row{"(s ) b i tt u em a" + eight, c[0], "b", want{true, "s b(i(tt(u(em(a))))) u(em(a(" + inEight + ")))", "18 17 16 8 9 10 11 12 13 14 15 26", c[1], 11}})
	}
}

// P15.1, step 2.6: where none of the first three is in the list, there is no copy, and the bookmark is F's place, one less for each of the others that stands below that.
func TestBookmarkWithoutCopies(t *testing.T) {
	// i (2) is the fifth one, u (3) the fourth one
	for _, c := range [][2]string{
		{"1 2 3 15", "23 15"}, {"2 1 3 15", "23 15"}, {"2 3 1 15", "23 15"}, {"3 15 1 2", "15 23"}, {"2 15 3 1", "15 23"}, {"15 1 2 3", "15 23"}, {"3 | 2 1", "| 23"}, {"1 15", "23 15"},
	} {
		run(t, row{"b i u span label q" + eight + " -s", c[0], "b", want{true, "b(i(u(span(label(q))))) " + inEight, "7 8 9 10 11 12 13 14 23", c[1], 8}})
	}
}

// P15.1, step 2.6: what stands in the elements between, beside what is put into the copies, stays in these; the copies have names and attributes.
func TestBetweenKeeps(t *testing.T) {
	c := set("b/x=1/y 'b1 i/x=2 'i1 (q ) u 'u1 p/id=p 'p1", "1 2")
	c.text(4, "u2")
	c.text(2, "i2")
	c.text(1, "b2")
	c.does(t, "b", want{true, "b/x=1/y('b1 i/x=2('i1 q u('u1 'u2) 'i2) 'b2) i/x=2(p/id=p(b/x=1/y('p1)))", "6 5", "6", 2})
}

// P15.1, step 2.8: what stands in B, nothing, texts, elements, or these in turn, stands in the copy, in order, and the copy alone in B.
func TestInBlock(t *testing.T) {
	for _, in := range [][2]string{
		{"", ""}, {"'x", "'x"}, {"(i )", "i"}, {"(i ) (u )", "i u"}, {"(i (u 'x ) )", "i(u('x))"}, {"'x (i )", "'x i"}, {"(i ) 'x", "i 'x"}, {"'x (i 'y ) 'z (p ) (u 'w )", "'x i('y) 'z p u('w)"},
	} {
		b := "b/x=1"
		if in[1] != "" {
			b += "(" + in[1] + ")"
		}
		run(t,
			row{"b/x=1 p " + in[0], "1", "b", want{true, "b/x=1 p(" + b + ")", "2", "", 1}},
			row{"div b/x=1 'f i p " + in[0], "2 3", "b", want{true, "div(b/x=1('f i) i(p(" + b + ")))", "1 " + strconv.Itoa(4+strings.Count(in[0], "(")+1) + " 4", strconv.Itoa(4 + strings.Count(in[0], "(") + 1), 2}},
		)
	}
}

// P15.1, step 2.8: the copy is right behind B in the stack, ahead of others that are open behind B, and these stand in it.
func TestBehindBlock(t *testing.T) {
	run(t,
		row{"b p i u 'x", "1 3 4", "b", want{true, "b p(b(i(u('x))))", "2", "3 4", 1}},
		row{"b p b 'x i", "3 1", "b", want{true, "b p(b(b('x i)))", "2", "3", 1}},
		row{"b p i 'x table", "1 | 3", "b", want{false, "b(p(i('x table)))", "1 2 3 4", "1 | 3", 0}},
	)
	// the b that isn't open (1) is last in the list, and all is done by it, so that F's copy (8) stays open
	run(t, row{"(b ) b i p u span 'x", "3 1 2", "b", want{true, "b b(i) i(p(b(u(span('x)))))", "7 4 8 5 6", "7 8", 2}})
}

// P15.1: after a turn the next one is done with the list's last one of the name then; a turn's end by step 2.1: it isn't done, but the turn ahead stays.
func TestTurnsEndByNone(t *testing.T) {
	for _, c := range []row{
		{"b i p 'x", "2 | 1", "b", want{false, "b(i) i(p(b('x)))", "4 3 5", "4 5 |", 2}},
		{"b i p p 'x", "2 | 1", "b", want{false, "b(i) i(p(b(p('x))))", "5 3 6 4", "5 6 |", 2}},
		{"div b i u p 'x", "3 | 2 | 4 |", "b", want{false, "div(b(i(u(p('x)))))", "1 2 3 4 5", "3 | 2 | 4 |", 0}},
		{"div b i u p 'x", "3 | 4 2", "b", want{true, "div(b(i(u)) i(u(p(b('x)))))", "1 7 6 5", "7 | 6", 3}},
		{"div b i u p 'x", "4 | 3 2", "b", want{false, "div(b(i(u)) i(u(p(b('x)))))", "1 7 6 5 8", "6 8 | 7", 3}},
	} {
		run(t, c)
	}
}

// P15.1: the second turn ends by step 2.2, 2.3 or 2.4, of another element of the name.
func TestTurnsEnd(t *testing.T) {
	run(t,
		row{"(b ) b i p 'x", "3 1 2", "b", want{true, "b b(i) i(p(b('x)))", "5 4 6", "5 6", 2}},
		row{"b table b i p 'x", "4 1 3", "b", want{true, "b(table(b(i) i(p(b('x)))))", "1 2 6 5 7", "6 7 1", 2}},
		row{"b u b i p 'x", "4 1 3", "b", want{true, "b(u(b(i) i)) i(p(b(b('x))))", "8 5 9", "8 9", 4}},
	)
}

// P15.1: two elements of the name in the list, both with B behind them.
func TestTurnsOfTwo(t *testing.T) {
	run(t,
		row{"b p b p", "1 3", "b", want{true, "b(p(b p(b)))", "1 2 4", "1", 1}},
		row{"b p b p", "3 1", "b", want{true, "b p(b(b) b(p(b)))", "2 6 4", "6", 3}},
		row{"b b p 'x", "1 2", "b", want{true, "b(b p(b('x)))", "1 3", "1", 1}},
		row{"b b p 'x", "2 1", "b", want{true, "b(b) b(p(b('x)))", "4 3", "4", 2}},
	)
}

// P15.1: as many turns as there are elements of the kind Special, one in the other, and one more that closes F's last copy, but eight at most: then that copy is open and listed still.
func TestTurns(t *testing.T) {
	for many := 1; many <= 12; many++ {
		var w want
		w.done, w.copies = true, min(many, 8)
		blocks := strings.Repeat(" p", many-w.copies) + " 'x"
		w.nodes = "b" + strings.Repeat(" p(b", w.copies) + strings.Repeat("(p", many-w.copies) + "('x" + strings.Repeat(")", 1+many)
		for i := 2; i <= many+1; i++ {
			w.open += " " + strconv.Itoa(i)
			if i == 9 {
				w.open += " " + strconv.Itoa(many+9)
				w.listed = strconv.Itoa(many + 9)
			}
		}
		w.open = w.open[1:]
		run(t, row{"b" + strings.Repeat(" p", w.copies) + blocks, "1", "b", w})
	}
}

// P15.1: turns with an element between that is in the list, and is around each B then: it is copied once for each.
func TestTurnsWithBetween(t *testing.T) {
	run(t,
		row{"b i p u div em p 'x", "1 2 4 6", "b", want{true, "b(i) i(p(b(u) u(div(b(em) em(p(b('x)))))))", "8 3 10 5 12 7", "8 10 12", 6}},
		row{"b p i p 'x", "1", "b", want{true, "b p(b(i) p(b('x)))", "2 4", "", 2}},
	)
}

// P15.1: one call behind the other, of the same name: the second one begins anew, with eight turns of its own, where the first one left off.
func TestTwoCalls(t *testing.T) {
	c := set("b"+eight+" p p 'x", "1")
	c.does(t, "b", want{true, "b" + strings.Repeat(" p(b", 8) + "(p(p('x" + strings.Repeat(")", 11), "2 3 4 5 6 7 8 9 19 10 11", "19", 8})
	after := "b" + strings.Repeat(" p(b", 10) + "('x" + strings.Repeat(")", 11)
	c.does(t, "b", want{true, after, "2 3 4 5 6 7 8 9 10 11", "", 10})
	c.does(t, "b", want{false, after, "2 3 4 5 6 7 8 9 10 11", "", 10})
}

// P15.1: one call behind the other, of other names.
func TestCallsOfOtherNames(t *testing.T) {
	c := set("b i u p 'x", "1 2 3")
	c.does(t, "b", want{true, "b(i(u)) i(u(p(b('x))))", "6 5 4", "6 5", 3})
	c.does(t, "p", want{true, "b(i(u)) i(u(p(b('x))))", "6 5", "6 5", 3})
	c.does(t, "i", want{true, "b(i(u)) i(u(p(b('x))))", "", "5", 3})
	c.does(t, "u", want{true, "b(i(u)) i(u(p(b('x))))", "", "", 3})
	c.does(t, "u", want{false, "b(i(u)) i(u(p(b('x))))", "", "", 3})
	c = set("b i u p 'x", "1 2 3")
	c.does(t, "u", want{true, "b(i(u p(u('x))))", "1 2 4", "1 2", 1})
	c.does(t, "i", want{true, "b(i(u) p(i(u('x))))", "1 4", "1", 2})
	c.does(t, "b", want{true, "b(i(u)) p(b(i(u('x))))", "4", "", 3})
	c.does(t, "div", want{false, "b(i(u)) p(b(i(u('x))))", "4", "", 3})
}

// P15.1: marks stay in the list where they are among the others, and what is ahead of the last one counts where elements are sought by their numbers.
func TestMarks(t *testing.T) {
	run(t,
		row{"b p", "| 1", "b", want{true, "b p(b)", "2", "|", 1}},
		row{"b p", "| | 1", "b", want{true, "b p(b)", "2", "| |", 1}},
		row{"i b u p", "1 | 2 | 3", "u", want{true, "i(b(u p(u)))", "1 2 4", "1 | 2 |", 1}},
		row{"b i u p", "2 | 1 3", "b", want{true, "b(i(u)) i(u(p(b)))", "6 5 4", "6 | 5", 3}},
		row{"b i u em a p", "2 | 3 | 1 4 5", "b", want{true, "b(i(u(em(a)))) u(em(a(p(b))))", "9 8 7 6", "| 9 | 8 7", 4}},
		row{"b i u em a p", "| 2 | 3 1 4 5", "b", want{true, "b(i(u(em(a)))) u(em(a(p(b))))", "9 8 7 6", "| | 9 8 7", 4}},
	)
}

// K4: a false that no turn is ahead of changes nothing, also not for what comes later: the next element's number, and the copies.
func TestNotDoneStays(t *testing.T) {
	c := set("div 'x b i p 'y", "2 | 3")
	for range 3 {
		c.does(t, "b", want{false, "div('x b(i(p('y))))", "1 2 3 4", "2 | 3", 0})
	}
	if i := c.element("u"); i != 5 {
		t.Error(i)
	}
	c.does(t, "i", want{true, "div('x b(i p(i('y))))", "1 2 4", "2 |", 1})
}

// K6: what is answered and changed hangs on the three objects alone: of two of each, in which the same numbers stand, each does as it would by itself.
func TestSideBySide(t *testing.T) {
	one, two := set("b i p 'x", "1 2"), set("b i table 'x", "1 2")
	three := set("i b p 'x", "1 2")
	two.does(t, "b", want{true, "b(i(table('x)))", "1 2 3", "1 2", 0})
	one.does(t, "b", want{true, "b(i) i(p(b('x)))", "4 3", "4", 2})
	three.does(t, "b", want{true, "i(b p(b('x)))", "1 3", "1", 1})
	two.does(t, "i", want{true, "b(i(table('x)))", "1 2 3", "1 2", 0})
	one.does(t, "b", want{false, "b(i) i(p(b('x)))", "4 3", "4", 2})
	three.does(t, "i", want{true, "i(b) p(i(b('x)))", "3", "", 2})
	one.does(t, "i", want{true, "b(i) i p(i(b('x)))", "3", "", 3})
}

// K5, K6: another stack and another list of the same arena don't change, though the same elements are in them; what All told ahead of the call doesn't either.
func TestOthersOfOneArena(t *testing.T) {
	c := set("div b i p 'x", "2 3")
	s, l := stack.New(c.a), list.New(c.a)
	for _, i := range []int{2, 4, 3} {
		s.Push(i)
		l.Insert(0, i)
	}
	open, listed, nodes := c.s.All(), c.l.All(), c.a.Nodes(0)
	c.does(t, "b", want{true, "div(b(i) i(p(b('x))))", "1 5 4", "5", 2})
	if got := numbers(s.All()) + ", " + numbers(l.All()); got != "2 4 3, 3 4 2" {
		t.Error(got)
	}
	if got := numbers(open) + ", " + numbers(listed) + ", " + show(nodes); got != "1 2 3 4, 2 3, div(b(i(p('x))))" {
		t.Error(got)
	}
}

// K6: as many as there are at once don't touch each other.
func TestAtOnce(t *testing.T) {
	var group sync.WaitGroup
	for range 8 {
		group.Go(func() {
			for many := range 200 {
				c := set("b i"+strings.Repeat(" p", 1+many%7), "1 2")
				c.again(t, "b")
				c.again(t, "i")
			}
		})
	}
	group.Wait()
}

// P1: long stacks and lists: very many elements between F and B, in the list or not, very many behind B, and very many in the list.
func TestLong(t *testing.T) {
	const many = 1 << 14
	for _, name := range []string{"span", "i"} {
		for _, behind := range []int{0, many} {
			c := empty()
			c.nest("b", 1, true)
			c.nest(name, many, name == "i")
			c.nest("p", 1, false)
			c.nest("u", behind, false)
			if !adopt.Again(c.a, c.s, c.l, "b") {
				t.Error(name, behind)
			}
			left := map[string]int{"span": 0, "i": 3}[name]
			if got := len(c.s.All()); got != left+1 {
				t.Errorf("open: %d", got)
			}
			if got := len(c.l.All()); got != left {
				t.Errorf("listed: %d", got)
			}
			if got := c.a.Copies(); got != left+1 {
				t.Errorf("copies: %d", got)
			}
			if nodes, depth := arena.Count(c.a.Nodes(0)); nodes != many+behind+left+3 || depth != max(many+1, behind+left+2) {
				t.Errorf("nodes: %d, %d deep", nodes, depth)
			}
		}
	}
}

// nest opens as many elements of a name, one in the other, and lists them, if they are to be; the model isn't told of it.
func (c *scene) nest(name string, many int, listed bool) {
	ahead := len(c.l.All())
	for at := range many {
		i := c.a.Element(name, nil)
		c.a.Append(c.s.Top(), i)
		c.s.Push(i)
		if listed {
			c.l.Insert(ahead+at, i)
		}
	}
}

// K7: stacks and lists that the chapter doesn't hand in, of another arena, of elements that stand elsewhere or nowhere, and with names of other kinds: no call panics, and each ends.
func TestOtherArguments(t *testing.T) {
	for _, open := range []string{"b i p", "p i b", "b i u em a p u", "table b p", "-b -i -p", "(b (i (p", "b p b p b"} {
		for _, other := range []string{"", "p", "b i p", "p b i p b i p b i p"} {
			c, foreign := set(open, ""), set(other, "")
			for range 3 {
				for _, i := range []int{3, 1, 2, 4, 7, 5, 0, -1, -2, 99} {
					for _, o := range []*scene{c, foreign} {
						o.s.Push(i)
						o.l.Push(i)
					}
				}
				for _, name := range []string{"b", "i", "p", "", "x", "table"} {
					adopt.Again(c.a, foreign.s, foreign.l, name)
					adopt.Again(foreign.a, c.s, foreign.l, name)
					adopt.Again(c.a, c.s, foreign.l, name)
					adopt.Again(foreign.a, foreign.s, c.l, name)
					adopt.Again(c.a, c.s, c.l, name)
					foreign.a.Nodes(0)
					c.a.Nodes(0)
				}
			}
		}
	}
}
