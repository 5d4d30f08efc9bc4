package fault

import (
	"errors"
	"fmt"

	"abacus/api"
)

// Errors of another package: what is handed in need not be of this one.

// wrapper wraps an error and has a text of its own.
type wrapper struct {
	text string
	err  error
}

func (w *wrapper) Error() string { return w.text }
func (w *wrapper) Unwrap() error { return w.err }

// plain gives the text of what it wraps, and is of a type that == can't compare.
type plain []error

func (p plain) Error() string { return p[0].Error() }
func (p plain) Unwrap() error { return p[0] }

// listed wraps nothing, and can't be compared either.
type listed []string

func (l listed) Error() string { return l[0] }

// speaker has no number within it, but tells errors.As one.
type speaker struct{ code api.Errno }

func (s speaker) Error() string { return "speaker" }
func (s speaker) As(target any) bool {
	code, ok := target.(*api.Errno)
	if ok {
		*code = s.code
	}
	return ok
}

// boaster tells errors.As that it is whatever is asked for, and gives nothing.
type boaster struct{ err error }

func (b *boaster) Error() string { return "boaster" }
func (b *boaster) Unwrap() error { return b.err }
func (b *boaster) As(any) bool   { return true }

// hider has no Unwrap, but lets errors.As and errors.Is into what it holds.
type hider struct{ err error }

func (h *hider) Error() string        { return "hider" }
func (h *hider) As(target any) bool   { return errors.As(h.err, target) }
func (h *hider) Is(target error) bool { return errors.Is(h.err, target) }

// kin bears one number, and says of another that it is that one, too.
type kin struct{ code, also api.Errno }

func (k kin) Error() string        { return "kin" }
func (k kin) Unwrap() error        { return k.code }
func (k kin) Is(target error) bool { return target == error(k.also) }

// The sick ones panic, each in one method.

type sickText struct{}

func (sickText) Error() string { panic("no text") }

type sickUnwrap struct{}

func (sickUnwrap) Error() string { return "sick" }
func (sickUnwrap) Unwrap() error { panic("no Unwrap") }

type sickAs struct{ err error }

func (sickAs) Error() string   { return "sick" }
func (s sickAs) Unwrap() error { return s.err }
func (sickAs) As(any) bool     { panic("no As") }

// emptied is nil as a pointer, though not as an error.
func emptied() error {
	var w *wrapper
	return w
}

// told is an error with what this package must answer of it.
type told struct {
	err   error
	text  string
	code  api.Errno
	place int
	names []string
}

func (w told) String() string {
	return fmt.Sprintf("%q, code %d, place %d, names %q", w.text, w.code, w.place, w.names)
}

// bases are errors that wrap no error of another link of a chain.
func bases() []told {
	lost := errors.New("lost")
	return []told{
		{New(14, 3), "error 14 at 3", 14, 3, nil},
		{New(10, -1), "error 10 at -1", 10, -1, nil},
		{New(39, 0), "error 39 at 0", 39, 0, nil},
		{New(-7, api.Min), "error -7 at -9223372036854775808", -7, api.Min, nil},
		{New(1000, api.Max), "error 1000 at 9223372036854775807", 1000, api.Max, nil},
		{api.ErrSize, "error 17", 17, -1, nil},
		{api.OK, "error 0", 0, -1, nil},
		{lost, "lost", 39, -1, nil},
		{listed{"listed", "more"}, "listed", 39, -1, nil},
		{speaker{api.ErrLoop}, "speaker", 36, -1, nil},
		{&hider{In(New(12, 8), "hidden")}, "hider", 12, -1, nil},
		{kin{api.ErrRank, api.ErrIndex}, "kin", 12, -1, nil},
		{&wrapper{"hollow", nil}, "hollow", 39, -1, nil},
	}
}

// A wrap makes an error of an error, and tells what must be answered of it.
type wrap func(told) told

func byIn(name string) wrap {
	return func(w told) told {
		w.err, w.text = In(w.err, name), name+": "+w.text
		w.names = append(w.names[:len(w.names):len(w.names)], name)
		return w
	}
}

func wraps() []wrap {
	return []wrap{
		byIn("Mean"), byIn("Sum"), byIn(""), byIn("a: b"), byIn("\xff\x00\n"),
		func(w told) told { w.err, w.text = &wrapper{"wrapper", w.err}, "wrapper"; return w },
		func(w told) told { w.err = plain{w.err}; return w },
		func(w told) told { w.err, w.text = fmt.Errorf("<%w>", w.err), "<"+w.text+">"; return w },
	}
}

// chains are all bases, and each of them within each row of up to depth wraps.
func chains(depth int) []told {
	out := bases()
	for last := out; depth > 0; depth-- {
		var more []told
		for _, w := range last {
			for _, in := range wraps() {
				more = append(more, in(w))
			}
		}
		out = append(out, more...)
		last = more
	}
	return out
}

// numbers are those of package api, and some that are none of them.
func numbers() []api.Errno {
	out := []api.Errno{api.Min, api.Min + 1, -1 << 32, -1000, 1 << 31, 1 << 32, api.Max - 1, api.Max}
	for n := api.Errno(-50); n <= 100; n++ {
		if n != api.OK {
			out = append(out, n)
		}
	}
	return out
}
