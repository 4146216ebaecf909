package meter_test

import (
	"errors"
	"fmt"
	"math"
	"testing"

	"decanter/meter"
)

// holds checks what is left and what is spent.
func holds(t *testing.T, m *meter.Meter, left, spent int) {
	t.Helper()
	if m.Left() != left || m.Spent() != spent {
		t.Errorf("%d left and %d spent, not %d and %d", m.Left(), m.Spent(), left, spent)
	}
}

// pays checks that a payment can be made.
func pays(t *testing.T, m *meter.Meter, n int) {
	t.Helper()
	if e := m.Pay(n); e != nil {
		t.Errorf("Pay(%d): %v", n, e)
	}
}

// refuses checks that a payment can't be made, what its error tells, and that nothing is spent.
func refuses(t *testing.T, m *meter.Meter, n int) {
	t.Helper()
	left, spent := m.Left(), m.Spent()
	e := m.Pay(n)
	if !errors.Is(e, meter.ErrOut) {
		t.Errorf("Pay(%d): %v is not ErrOut", n, e)
	}
	var s *meter.Short
	if !errors.As(e, &s) {
		t.Fatalf("Pay(%d): no Short in %v", n, e)
	}
	if *s != (meter.Short{Want: n, Left: left}) {
		t.Errorf("Pay(%d) with %d left: %+v", n, left, *s)
	}
	holds(t, m, left, spent)
}

// P1.1: New, Left, Spent.
func TestNew(t *testing.T) {
	for _, c := range []struct{ amount, left int }{
		{0, 0},
		{1, 1},
		{5, 5},
		{math.MaxInt, math.MaxInt},
		{-1, 0},
		{-5, 0},
		{math.MinInt, 0},
	} {
		t.Run(fmt.Sprint(c.amount), func(t *testing.T) {
			holds(t, meter.New(c.amount), c.left, 0)
		})
	}
}

// P1.1: Left and Spent tell, and change nothing.
func TestAskingChangesNothing(t *testing.T) {
	m := meter.New(5)
	pays(t, m, 2)
	for range 3 {
		holds(t, m, 3, 2)
	}
}

// P1.1, K6: one meter's payments are not another one's.
func TestMetersAreApart(t *testing.T) {
	a, b := meter.New(5), meter.New(5)
	pays(t, a, 4)
	holds(t, a, 1, 4)
	holds(t, b, 5, 0)
}

// P1.2: payments that can be made, one after the other.
func TestPay(t *testing.T) {
	for _, c := range []struct {
		name        string
		amount      int
		pay         []int
		left, spent int
	}{
		{"once", 5, []int{3}, 2, 3},
		{"several times", 10, []int{1, 2, 3}, 4, 6},
		{"nothing", 5, []int{0}, 5, 0},
		{"just what there is", 5, []int{5}, 0, 5},
		{"just what is left", 5, []int{3, 2}, 0, 5},
		{"nothing of nothing", 0, []int{0}, 0, 0},
		{"below 0", 5, []int{-1}, 5, 0},
		{"below 0 behind another", 5, []int{2, -2}, 3, 2},
		{"below 0 of nothing", 0, []int{-1}, 0, 0},
		{"the least number", 5, []int{math.MinInt}, 5, 0},
		{"the greatest number", math.MaxInt, []int{math.MaxInt}, 0, math.MaxInt},
		{"below 0 of the greatest number", math.MaxInt, []int{-1, math.MinInt}, math.MaxInt, 0},
		{"nothing of an amount below 0", -5, []int{0, -5}, 0, 0},
	} {
		t.Run(c.name, func(t *testing.T) {
			m := meter.New(c.amount)
			for _, n := range c.pay {
				pays(t, m, n)
			}
			holds(t, m, c.left, c.spent)
		})
	}
}

// P1.2: payments that can't be made.
func TestPayTooMuch(t *testing.T) {
	for _, c := range []struct {
		name   string
		amount int
		pay    []int
		n      int
	}{
		{"one more than there is", 5, nil, 6},
		{"one more than is left", 5, []int{3}, 3},
		{"nothing left", 5, []int{5}, 1},
		{"nothing there", 0, nil, 1},
		{"an amount below 0", -5, nil, 1},
		{"the greatest number", 5, []int{3}, math.MaxInt},
		{"all but one are left", math.MaxInt, []int{1}, math.MaxInt},
	} {
		t.Run(c.name, func(t *testing.T) {
			m := meter.New(c.amount)
			for _, n := range c.pay {
				pays(t, m, n)
			}
			refuses(t, m, c.n)
		})
	}
}

// P1.2, K4: a payment that can't be made stands in no later one's way.
func TestPayGoesOn(t *testing.T) {
	m := meter.New(5)
	pays(t, m, 3)
	refuses(t, m, 3)
	refuses(t, m, 3)
	pays(t, m, 2)
	holds(t, m, 0, 5)
	refuses(t, m, 1)
	pays(t, m, 0)
	holds(t, m, 0, 5)
}

// P1.2: what is paid and what is left come to the amount, whatever was asked for.
func TestNothingIsLost(t *testing.T) {
	for amount := range 7 {
		for first := -2; first < 9; first++ {
			for second := -2; second < 9; second++ {
				m := meter.New(amount)
				spent := 0
				for _, n := range []int{first, second} {
					if max(n, 0) > amount-spent {
						refuses(t, m, n)
						continue
					}
					pays(t, m, n)
					spent += max(n, 0)
				}
				holds(t, m, amount-spent, spent)
			}
		}
	}
}

// P1.2: what the error tells is found through other errors around it.
func TestWrapped(t *testing.T) {
	e := fmt.Errorf("more: %w", meter.New(2).Pay(3))
	var s *meter.Short
	if !errors.Is(e, meter.ErrOut) || !errors.As(e, &s) || *s != (meter.Short{Want: 3, Left: 2}) {
		t.Error(e)
	}
}

// K5: each error is new memory: to write into one changes neither another one nor the meter.
func TestShortsAreApart(t *testing.T) {
	m := meter.New(2)
	var a, b *meter.Short
	if !errors.As(m.Pay(3), &a) || !errors.As(m.Pay(3), &b) {
		t.Fatal("no Short")
	}
	a.Want, a.Left = 7, 9
	if *b != (meter.Short{Want: 3, Left: 2}) {
		t.Error(*b)
	}
	holds(t, m, 2, 0)
}

// P1.2: the text of a Short.
func TestShortText(t *testing.T) {
	for _, c := range []struct {
		short meter.Short
		text  string
	}{
		{meter.Short{}, "0 of 0"},
		{meter.Short{Want: 7, Left: 6}, "7 of 6"},
		{meter.Short{Want: 100, Left: 20}, "100 of 20"},
		{meter.Short{Want: -12, Left: 0}, "-12 of 0"},
		{meter.Short{Want: 3, Left: -4}, "3 of -4"},
		{meter.Short{Want: math.MaxInt, Left: math.MinInt}, "9223372036854775807 of -9223372036854775808"},
	} {
		if text := c.short.Error(); text != c.text {
			t.Errorf("%+v: %q, not %q", c.short, text, c.text)
		}
	}
}
