package fault

import (
	"slices"
	"testing"

	"abacus/api"
)

// TestAskedOfNil: there is nothing to be told of nil.
func TestAskedOfNil(t *testing.T) {
	if code, place, names := Code(nil), Place(nil), Trail(nil); code != api.OK || place != -1 || len(names) != 0 {
		t.Errorf("P11.4 to P11.6: of nil: %d, %d, %q", code, place, names)
	}
}

// TestChains: errors of this package and of others, within one another in all orders.
func TestChains(t *testing.T) {
	for _, w := range chains(4) {
		if check(t, w); t.Failed() {
			return // one of so many tells enough
		}
	}
}

// TestOrder: the innermost name first, each as often as it was given.
func TestOrder(t *testing.T) {
	err := New(api.ErrOver, 1)
	var names []string
	for _, name := range []string{"a", "b", "", "a", "a", "Sum", "", "b"} {
		err = In(err, name)
		names = append(names, name)
		if got := Trail(err); !slices.Equal(got, names) {
			t.Errorf("P11.6: %q, not %q", got, names)
		}
	}
}

// TestLong: a trail as long as nobody writes it. (Were a text copied once a name, or a list, the test would not end in its time.)
func TestLong(t *testing.T) {
	const depth = 1 << 19
	err := New(api.ErrOver, 7)
	for i := range depth {
		err = In(err, string(rune('a'+i%26)))
	}
	if code, place := Code(err), Place(err); code != api.ErrOver || place != 7 {
		t.Errorf("P11.4, P11.5: %d, %d", code, place)
	}
	names, text := Trail(err), err.Error()
	if len(names) != depth || names[0] != "a" || names[27] != "b" || names[depth-1] != string(rune('a'+(depth-1)%26)) {
		t.Errorf("P11.6: %d names", len(names))
	}
	if len(text) != 3*depth+len("error 14 at 7") || text[3*(depth-1):] != "a: error 14 at 7" {
		t.Errorf("P11.2: a text of %d bytes", len(text))
	}
}

// TestLongOthers: the same with errors of another package between the names.
func TestLongOthers(t *testing.T) {
	const depth = 1 << 17
	err := New(api.ErrOver, 7)
	for range depth {
		err = &wrapper{"wrapper", In(err, "a")}
	}
	if code, place, names := Code(err), Place(err), Trail(err); code != api.ErrOver || place != 7 || len(names) != depth {
		t.Errorf("P11.4 to P11.6: %d, %d, %d names", code, place, len(names))
	}
}

// TestUnwrapAlone: Place and Trail go by errors.Unwrap alone; an As of another package neither hides what is there nor shows what is not.
func TestUnwrapAlone(t *testing.T) {
	within := In(New(12, 8), "b")
	boast := In(&boaster{within}, "c")
	if place, names := Place(boast), Trail(boast); place != 8 || !slices.Equal(names, []string{"b", "c"}) {
		t.Errorf("P11.5, P11.6: behind one that boasts: %d, %q", place, names)
	}
	hidden := In(&hider{within}, "c")
	if place, names := Place(hidden), Trail(hidden); place != -1 || !slices.Equal(names, []string{"c"}) {
		t.Errorf("P11.5, P11.6: behind one that hides: %d, %q", place, names)
	}
	if code := Code(hidden); code != 12 {
		t.Errorf("P11.4: behind one that hides: %d", code)
	}
}

// TestSick: methods of other packages that panic are no reason to panic.
func TestSick(t *testing.T) {
	within := In(New(12, 8), "b")
	for _, w := range []told{
		{In(sickText{}, "a"), "a: ", 39, -1, []string{"a"}},
		{In(sickUnwrap{}, "a"), "a: sick", 39, -1, []string{"a"}},
		{In(sickAs{within}, "a"), "a: sick", 39, 8, []string{"b", "a"}},
		{In(emptied(), "a"), "a: ", 39, -1, []string{"a"}},
		{In(plain{}, "a"), "a: ", 39, -1, []string{"a"}},
	} {
		check(t, w)
		check(t, told{In(w.err, "z"), "z: " + w.text, w.code, w.place, append(w.names, "z")})
	}
}
