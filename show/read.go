package show

import (
	"strconv"

	"abacus/api"
	"abacus/arr"
	"abacus/shape"
)

// nowhere is the place of a $ that there is not.
const nowhere = -1

// end is seen where no byte is left; no byte is that number.
const end = -1

// reader goes through a text from the left and gathers its numbers.
type reader struct {
	text    string
	at      int     // the byte that is looked at
	from    int     // where the word began
	dollar  int     // where $ stands
	lengths []int   // the numbers ahead of $
	numbers []int64 // those behind it; without $ all of them
}

// words goes through the text to its end, or to the first byte, or number, that can't be.
func (r *reader) words() (int, api.Errno) {
word:
	r.from = r.at
	switch b := r.look(); {
	case b == '_':
		goto sign
	case b == '0':
		r.at++
		goto number
	case b >= '1' && b <= '9':
		goto digit
	case b == '$' && r.dollar == nowhere:
		r.turn()
		r.at++
		goto behind
	}
	return r.at, api.ErrText

sign:
	r.at++
	if b := r.look(); b < '1' || b > '9' {
		return r.at, api.ErrText
	}

digit:
	r.at++
	if b := r.look(); b >= '0' && b <= '9' {
		goto digit
	}

number:
	if !r.take() {
		return r.from, api.ErrNumber
	}

behind:
	switch r.look() {
	case ' ':
		r.at++
		goto word
	case end:
		return 0, api.OK
	}
	return r.at, api.ErrText
}

// look tells the byte, or the end, at which the reader stands.
func (r *reader) look() int {
	if r.at == len(r.text) {
		return end
	}
	return int(r.text[r.at])
}

// take gathers the number that ends here; false: it is beyond 64 bits.
func (r *reader) take() bool {
	digits := r.text[r.from:r.at]
	if digits[0] == '_' {
		digits = "-" + digits[1:]
	}
	n, err := strconv.ParseInt(digits, 10, 64)
	if err != nil {
		return false
	}
	r.numbers = append(r.numbers, n)
	return true
}

// turn makes lengths of the numbers so far: the reader stands at $.
func (r *reader) turn() {
	r.dollar = r.at
	for _, n := range r.numbers {
		r.lengths = append(r.lengths, int(n))
	}
	r.numbers = nil
}

// whole gives the array of all that was gathered.
func (r *reader) whole() (api.Array, int, api.Errno) {
	if r.dollar != nowhere {
		return r.shaped()
	}
	if len(r.numbers) == 1 {
		return arr.Scalar(r.numbers[0]), 0, api.OK
	}
	a, e := arr.List(r.numbers...)
	return a, 0, e
}

// shaped gives the array of the lengths and the atoms.
func (r *reader) shaped() (api.Array, int, api.Errno) {
	if len(r.lengths) == 0 {
		return api.Array{}, r.dollar, api.ErrText
	}
	size, e := shape.Size(r.lengths)
	if e != api.OK {
		return api.Array{}, 0, api.ErrSize
	}
	if len(r.numbers) != size {
		return api.Array{}, len(r.text), api.ErrLength
	}
	a := api.Array{Shape: r.lengths, Atoms: r.numbers}
	if isBare(a) {
		return api.Array{}, r.dollar, api.ErrText
	}
	return a, 0, api.OK
}
