package kind

import (
	"maps"
	"slices"
	"strings"
	"testing"
)

// every is the ten kinds, added.
const every = 1<<10 - 1

// P11.1: the text of the names rises and has each name once, since what All answers is as the text is.
func TestNamesRise(t *testing.T) {
	all := strings.Fields(names)
	for at := range all {
		if at > 0 && all[at-1] >= all[at] {
			t.Errorf("%q ahead of %q", all[at-1], all[at])
		}
	}
	if joined := strings.Join(all, " "); joined != names {
		t.Errorf("more than blanks between the names: %q", names)
	}
}

// Ways: the map of the start-up has each of the names, with its kinds, and no other key.
func TestListed(t *testing.T) {
	for _, name := range strings.Fields(names) {
		if own, ok := listed[name]; !ok || own != Of(name) || own == 0 {
			t.Errorf("%q: %d and %t, not %d", name, own, ok, Of(name))
		}
	}
	if got, want := len(listed), len(strings.Fields(names)); got != want {
		t.Errorf("%d keys, not %d", got, want)
	}
}

// P11.1: no answer hangs on the map of the start-up: with other keys in it, and with none, all answers stay as they are.
func TestAnswersWithoutListed(t *testing.T) {
	kept := maps.Clone(listed)
	defer func() {
		clear(listed)
		maps.Copy(listed, kept)
	}()
	var want [every + 1][]string
	for some := range want {
		want[some] = All(some)
	}
	for _, other := range []map[string]int{{}, {"p": 0, "x-y": -1}, {"hr": -1, "b": Void, "P": Safe}} {
		clear(listed)
		maps.Copy(listed, other)
		for some := range want {
			if got := All(some); !slices.Equal(got, want[some]) {
				t.Errorf("All(%d): %q, not %q", some, got, want[some])
			}
		}
		for name, own := range kept {
			if Of(name) != own || !Is(name, own) || Is(name, ^own) {
				t.Errorf("%q: %d, not %d", name, Of(name), own)
			}
		}
	}
}
