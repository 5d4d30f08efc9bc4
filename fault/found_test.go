package fault

import (
	"errors"
	"testing"

	"abacus/api"
)

// TestNumberFound: of what New gave, errors.Is and errors.As find its number and no other.
func TestNumberFound(t *testing.T) {
	for _, code := range numbers() {
		err := New(code, 5)
		for depth := range 4 {
			for _, other := range append(numbers(), api.OK) {
				if got := errors.Is(err, other); got != (other == code) {
					t.Errorf("P11.3: error %d, %d names: Is %d: %v", code, depth, other, got)
				}
			}
			var got api.Errno
			if !errors.As(err, &got) || got != code {
				t.Errorf("P11.3: error %d, %d names: As gives %d", code, depth, got)
			}
			err = In(err, "a")
		}
	}
}

// TestFoundThroughIn: what errors.Is finds in an error it finds in one that In gave of it, and nothing else.
func TestFoundThroughIn(t *testing.T) {
	for _, w := range chains(2) {
		err := w.err
		for range 3 {
			err = In(err, "a")
			for _, n := range append(numbers(), api.OK) {
				if errors.Is(err, n) != errors.Is(w.err, n) {
					t.Errorf("P11.3: In(%v): Is %d: %v", w, n, errors.Is(err, n))
				}
			}
			if errors.Is(err, w.err) != errors.Is(w.err, w.err) {
				t.Errorf("P11.3: In(%v): Is itself: %v", w, errors.Is(err, w.err))
			}
		}
	}
}

// TestItselfFound: the error itself is found, through any depth, and another one like it is not.
func TestItselfFound(t *testing.T) {
	for _, give := range []func() error{
		func() error { return New(14, 3) },
		func() error { return In(New(14, 3), "a") },
		func() error { return errors.New("lost") },
		func() error { return &wrapper{"wrapper", New(14, 3)} },
	} {
		first, second := give(), give()
		err := first
		for depth := range 10 {
			if !errors.Is(err, first) || errors.Is(err, second) {
				t.Errorf("P11.3: %v within %d names: %v, %v", first, depth, errors.Is(err, first), errors.Is(err, second))
			}
			err = In(err, "a")
		}
	}
}

// TestTypeFound: errors.As finds an error of another package behind names.
func TestTypeFound(t *testing.T) {
	wanted := &wrapper{"wrapper", New(14, 3)}
	var got *wrapper
	if err := In(In(wanted, "a"), "b"); !errors.As(err, &got) || got != wanted {
		t.Errorf("P11.3: As gives %v", got)
	}
}
