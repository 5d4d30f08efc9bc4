package print

import "abacus/api"

// noun writes a noun.
func (w *writer) noun(t api.Term) {
	switch t.Kind {
	case api.KNum:
		w.numbers(t.Num.Atoms, number)
	case api.KName:
		w.put(t.Text)
	case api.KMon:
		w.bracketed(t.Kids[0], numbersMeet(t))
		w.put(" ")
		w.noun(t.Kids[1])
	case api.KDy:
		left := t.Kids[1]
		w.bracketed(left, left.Kind == api.KMon || left.Kind == api.KDy)
		w.put(" ")
		w.bracketed(t.Kids[0], numbersMeet(t))
		w.put(" ")
		w.noun(t.Kids[2])
	case api.KPick:
		w.put("pick. ")
		w.noun(t.Kids[0])
		w.put(" do. ")
		w.list(t.Kids[1:], " or. ")
		w.put(" end.")
	}
}

// sentence writes a sentence, but a body.
func (w *writer) sentence(t api.Term) {
	switch t.Kind {
	case api.SSay:
		w.noun(t.Kids[0])
	case api.SSet:
		w.put(t.Text, " =. ")
		w.noun(t.Kids[0])
	case api.SIf:
		w.asked("if. ", t)
		w.put("else. ")
		w.body(t.Kids[2])
		w.put("end.")
	case api.SWhile:
		w.asked("while. ", t)
		w.put("end.")
	}
}

// asked writes what an SIf and an SWhile have in common: what is asked, and what is done if it is true.
func (w *writer) asked(word string, t api.Term) {
	w.put(word)
	w.noun(t.Kids[0])
	w.put(" do. ")
	w.body(t.Kids[1])
}

// body writes a body's sentences and a blank behind them; nothing, if there are none.
func (w *writer) body(t api.Term) {
	if len(t.Kids) == 0 {
		return
	}
	w.list(t.Kids, "; ")
	w.put(" ")
}
