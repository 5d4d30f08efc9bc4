package parse

import "abacus/api"

// body reads a body, up to the word behind it.
func (r *reader) body() api.Term {
	t := of(api.SBody)
	if r.nextIs("}}", "else.", "end.") {
		return t
	}
	t.Kids = append(t.Kids, r.sentence())
	for r.skip(";") {
		t.Kids = append(t.Kids, r.sentence())
	}
	return t
}

// sentence reads a sentence.
func (r *reader) sentence() api.Term {
	first := r.word()
	switch {
	case first.Text == "if.":
		return r.within(r.choice, "end.")
	case first.Text == "while.":
		return r.within(r.loop, "end.")
	case first.Kind == nounName && r.words[r.at+1].Text == "=.":
		r.take()
		r.take()
		return api.Term{Kind: api.SSet, Text: first.Text, Kids: []api.Term{r.nounPhrase()}}
	}
	return of(api.SSay, r.nounPhrase())
}

// choice reads what stands between if. and end. .
func (r *reader) choice() api.Term {
	asked := r.nounPhrase()
	r.must("do.")
	first, second := r.body(), of(api.SBody)
	if r.skip("else.") {
		second = r.body()
	}
	return of(api.SIf, asked, first, second)
}

// loop reads what stands between while. and end. .
func (r *reader) loop() api.Term {
	asked := r.nounPhrase()
	r.must("do.")
	return of(api.SWhile, asked, r.body())
}
