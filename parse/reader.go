package parse

import (
	"slices"

	"abacus/api"
	"abacus/term"
	"abacus/word"
)

// Kinds of words, in the numbers of api.Word; the end is read as a word of no kind.
const (
	theEnd = iota
	numbers
	nounName
	verbName
	primitive
	adverb
	conjunction
)

// mostNested is how many words that open something may stand within one another.
const mostNested = 2 * api.MaxDepth

// reader goes through the words of a text from the left.
type reader struct {
	words  []api.Word // the last one is the end
	at     int        // which one is next
	nested int        // how many that open something are not yet closed
	joins  map[string]join
}

// open gives a reader of a text's words.
func open(s string) *reader {
	words, at, e := word.Cut(s)
	if e != api.OK {
		panic(fault{e, at})
	}
	return &reader{words: append(words, api.Word{At: len(s)}), joins: joins()}
}

// misplaced is the fault of a word that stands where it may not.
func misplaced(w api.Word) fault { return fault{api.ErrSyntax, w.At} }

// word tells the next word.
func (r *reader) word() api.Word { return r.words[r.at] }

// take takes the next word, which isn't the end, and gives it.
func (r *reader) take() api.Word {
	r.at++
	return r.words[r.at-1]
}

// nextIs tells whether the next word is one of these.
func (r *reader) nextIs(texts ...string) bool { return slices.Contains(texts, r.word().Text) }

// skip takes the next word, if it is that one, and tells whether it is.
func (r *reader) skip(text string) bool {
	is := r.nextIs(text)
	if is {
		r.take()
	}
	return is
}

// must takes the next word, which may be no other one.
func (r *reader) must(text string) {
	if !r.skip(text) {
		panic(misplaced(r.word()))
	}
}

// rest reads all words that are left as a phrase of a class; at is the place that is told of one of the other class.
func (r *reader) rest(class, at int) api.Term {
	t := r.phrase()
	end := r.words[len(r.words)-1]
	if behind := r.word(); behind.Kind != theEnd {
		panic(misplaced(behind))
	}
	if isNoun(t) != (class == api.ClassNoun) {
		panic(fault{api.ErrKind, at})
	}
	if e := term.May(t, class); e != api.OK {
		panic(fault{e, end.At})
	}
	return t
}

// within reads what stands between the next word, which opens it, and the one that closes it.
func (r *reader) within(read func() api.Term, closing string) api.Term {
	if r.nested == mostNested {
		panic(fault{api.ErrLong, r.word().At})
	}
	r.nested++
	r.take()
	t := read()
	r.must(closing)
	r.nested--
	return t
}

// of is a term that is made of kids alone.
func of(kind int, kids ...api.Term) api.Term { return api.Term{Kind: kind, Kids: kids} }

// Kinds of what is read on the way and is no term.
const (
	ring   = -1 // [: alone
	gerund = -2 // its kids are the branches
	ranks  = -3 // Text is their word
)

func isNoun(t api.Term) bool { return t.Kind >= api.KNum && t.Kind <= api.KPick }
func isVerb(t api.Term) bool { return t.Kind >= api.VPrim && t.Kind <= api.VCap }

// isSimple tells of a noun that a conjunction may stand beside it. (Whether its name may be an operand's is term.May's to tell.)
func isSimple(t api.Term) bool { return t.Kind == api.KNum || t.Kind == api.KName }
