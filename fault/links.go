package fault

import (
	"errors"
	"strconv"
	"strings"

	"abacus/api"
)

// placed is what New gives, always by a pointer: each one is itself alone.
type placed struct {
	code api.Errno
	at   int
}

func (p *placed) Error() string { return p.code.Error() + " at " + strconv.Itoa(p.at) }

// Unwrap gives the number as an error, so that errors.Is and errors.As find it.
func (p *placed) Unwrap() error { return p.code }

// named is what In gives, by a pointer too.
type named struct {
	err  error
	name string
}

// Error goes over all names in a row: if each one asked the next for its text, a long trail's would be copied once a name.
func (n *named) Error() string {
	var text strings.Builder
	err := error(n)
	for link, ok := ofIn(err); ok; link, ok = ofIn(err) {
		text.WriteString(link.name)
		text.WriteString(": ")
		err = link.err
	}
	text.WriteString(guarded("", err.Error))
	return text.String()
}

func (n *named) Unwrap() error { return n.err }

// ofNew gives err as what New made of it. It looks at this one error alone: errors.As would go on to those within it, and would believe an As of another package.
func ofNew(err error) (*placed, bool) {
	p, ok := err.(*placed)
	return p, ok
}

// ofIn gives err as what In made of it, in the same way.
func ofIn(err error) (*named, bool) {
	n, ok := err.(*named)
	return n, ok
}

// next gives the error that err wraps; nil, if it wraps none.
func next(err error) error {
	return guarded(nil, func() error { return errors.Unwrap(err) })
}

// guarded gives what ask answers, or other if it panics. The methods of another package's error may do so, and no call of this one may.
func guarded[T any](other T, ask func() T) (answer T) {
	defer func() {
		if recover() != nil {
			answer = other
		}
	}()
	return ask()
}
