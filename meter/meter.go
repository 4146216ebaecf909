// Package meter is layer 1: see shared/doc/01-meter.md.
package meter

import (
	"errors"
	"strconv"
)

// ErrOut is that there is too little left.
var ErrOut = errors.New("too little left")

// Short is how much was wanted, and how much is left.
type Short struct{ Want, Left int }

// Error gives its text.
func (s *Short) Error() string {
	return strconv.Itoa(s.Want) + " of " + strconv.Itoa(s.Left)
}

// Unwrap gives ErrOut, so that errors.Is finds it without a second error around a Short.
func (s *Short) Unwrap() error { return ErrOut }

// Meter is an amount that is used up.
type Meter struct{ left, spent int }

// New gives a meter.
func New(amount int) *Meter { return &Meter{left: max(amount, 0)} }

// Pay uses some up.
func (m *Meter) Pay(n int) error {
	// A payment below 0 would put something back: a meter only ever runs down.
	n = max(n, 0)
	if n > m.left {
		return &Short{Want: n, Left: m.left}
	}
	m.left -= n
	m.spent += n
	return nil
}

// Left tells how much is left.
func (m *Meter) Left() int { return m.left }

// Spent tells how much was used up.
func (m *Meter) Spent() int { return m.spent }
