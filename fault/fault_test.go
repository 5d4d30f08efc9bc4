package fault

import (
	"errors"
	"math/big"
	"reflect"
	"slices"
	"strings"
	"testing"

	"abacus/api"
)

// digits tells a number in decimal, without what the package itself uses.
func digits(n int) string { return big.NewInt(int64(n)).String() }

// check holds all that is asked of an error against what must be answered.
func check(t *testing.T, w told) {
	t.Helper()
	if got := w.err.Error(); got != w.text {
		t.Errorf("P11.1, P11.2: the text of %v is %q", w, got)
	}
	if got := Code(w.err); got != w.code {
		t.Errorf("P11.4: Code of %v is %d", w, got)
	}
	if got := Place(w.err); got != w.place {
		t.Errorf("P11.5: Place of %v is %d", w, got)
	}
	if got := Trail(w.err); !slices.Equal(got, w.names) {
		t.Errorf("P11.6: Trail of %v is %q", w, got)
	}
}

// TestExamples: the chapter's own.
func TestExamples(t *testing.T) {
	check(t, told{New(14, 3), "error 14 at 3", 14, 3, nil})
	check(t, told{In(In(New(10, -1), "Mean"), "Sum"), "Sum: Mean: error 10 at -1", 10, -1, []string{"Mean", "Sum"}})
	if err := New(0, 5); err != nil {
		t.Errorf("P11.1: New(0, 5) is %v", err)
	}
	if err := In(nil, "a"); err != nil {
		t.Errorf("P11.2: In(nil, a) is %v", err)
	}
	if code, place := Code(nil), Place(nil); code != 0 || place != -1 {
		t.Errorf("P11.4, P11.5: of nil: %d, %d", code, place)
	}
	check(t, told{In(errors.New("lost"), "a"), "a: lost", 39, -1, []string{"a"}})
	check(t, told{In(api.ErrSize, "a"), "a: error 17", 17, -1, []string{"a"}})
}

// TestNew: every number, at places of all kinds.
func TestNew(t *testing.T) {
	for _, at := range []int{api.Min, api.Min + 1, -1 << 32, -10, -2, -1, 0, 1, 2, 9, 10, 4096, 1 << 31, api.Max - 1, api.Max} {
		if err := New(api.OK, at); err != nil {
			t.Errorf("P11.1: New(0, %d) is %v", at, err)
		}
		for _, code := range numbers() {
			text := "error " + digits(int(code)) + " at " + digits(at)
			check(t, told{New(code, at), text, code, at, nil})
		}
	}
}

// TestIn: of errors of all kinds, with names of all kinds.
func TestIn(t *testing.T) {
	for _, name := range []string{"", "a", "Mean", ": ", "error 14 at 3", "two words", "\x00", "\xff\xfe", "é", strings.Repeat("n", 100)} {
		if err := In(nil, name); err != nil {
			t.Errorf("P11.2: In(nil, %q) is %v", name, err)
		}
		for _, w := range chains(1) {
			err := In(w.err, name)
			if err == nil || err.Error() != name+": "+w.text {
				t.Errorf("P11.2: In(%v, %q): %v", w, name, err)
			}
			if got := errors.Unwrap(err); !one(got, w.err) {
				t.Errorf("P11.2: In(%v, %q) wraps %v", w, name, got)
			}
		}
	}
}

// one tells whether two errors are the same value; of lists, which == can't compare, the same memory.
func one(a, b error) bool {
	switch p := a.(type) {
	case listed:
		q, ok := b.(listed)
		return ok && &p[0] == &q[0]
	case plain:
		q, ok := b.(plain)
		return ok && &p[0] == &q[0]
	}
	return a == b
}

// TestEmptiedPointer: a pointer that is nil is not the error nil.
func TestEmptiedPointer(t *testing.T) {
	err := In(emptied(), "a")
	if err == nil || errors.Unwrap(err) != emptied() {
		t.Errorf("P11.2: In of a nil pointer is nil, or wraps another")
	}
}

// TestTextNow: the text is that of the error as it is when it is asked for.
func TestTextNow(t *testing.T) {
	w := &wrapper{"early", nil}
	err := In(In(w, "a"), "b")
	w.text = "late"
	if got := err.Error(); got != "b: a: late" {
		t.Errorf("P11.2: %q", got)
	}
}

// TestTypes: what New and In give are pointers to two types of this package.
func TestTypes(t *testing.T) {
	a, b := reflect.TypeOf(New(1, 1)), reflect.TypeOf(In(api.ErrArg, "a"))
	for _, k := range []reflect.Type{a, b} {
		if k.Kind() != reflect.Pointer || k.Elem().PkgPath() != a.Elem().PkgPath() || !strings.HasSuffix(k.Elem().PkgPath(), "fault") {
			t.Errorf("Ways: %v", k)
		}
	}
	if a == b {
		t.Errorf("Ways: one type, %v", a)
	}
}
