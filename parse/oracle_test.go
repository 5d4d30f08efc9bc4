package parse

import (
	"regexp"
	"slices"
	"strconv"
	"strings"

	"abacus/api"
	"abacus/term"
	"abacus/word"
)

// The chapter's rules once more, as a machine that is fed word by word and keeps a stack of levels: what it can tell of a text hangs on the words it has been fed alone, so all that it tells is told at once.

// thing is what has been made, with the place of its first word.
type thing struct {
	t  api.Term
	at int
}

// level is what is open.
type level struct {
	open  string     // the word that opened it, or is to end it next: see next and close
	name  string     // of a name that is set
	n     int        // of a definition
	done  []api.Term // what was made of it before
	began int        // the number of the first word of the phrase
	units []thing
	unit  *thing    // what there is of the unit that is being read
	sign  *api.Word // the conjunction behind it
	first int       // the place of the first word of the primary behind that
	at    int       // the place of the word that opened it
}

type machine struct {
	levels []*level
	number int // of the word that is fed
	out    api.Term
	over   bool
}

// told is what the machine panics with.
type toldFault answer

func syntaxAt(at int) toldFault { return toldFault{at: at, e: api.ErrSyntax} }

// classOf tells what a thing is, as one letter: V, a verb; N, a number or a name; O, another noun; R, [: ; G, a gerund.
func classOf(t api.Term) string {
	switch {
	case t.Kind == -10:
		return "R"
	case t.Kind == -20:
		return "G"
	case term.Class(t) == api.ClassVerb:
		return "V"
	case t.Kind == api.KNum || t.Kind == api.KName:
		return "N"
	}
	return "O"
}

// made are the kinds that are made of two sides, by their letters and what stands between.
func made() map[string]int {
	out := map[string]int{"V&N": api.VBondR, "N&V": api.VBondL, "V^:N": api.VPow, "V@.V": api.VAgenda, "G@.V": api.VAgenda}
	for sign, kind := range ofVerbs() {
		out["V"+sign+"V"] = kind
	}
	return out
}

var makes, changes = made(), adverbs()

func (m *machine) top() *level { return m.levels[len(m.levels)-1] }

// push opens a level; those of words that count are counted.
func (m *machine) push(open string, at int) *level {
	l := &level{open: open, at: at, began: m.number + 1}
	m.levels = append(m.levels, l)
	nested := 0
	for _, l := range m.levels {
		if strings.Contains(" ( ` {{ pick. or. if. then else while. loop ", " "+l.open+" ") {
			nested++
		}
	}
	if nested > 512 {
		panic(toldFault{at: at, e: api.ErrLong})
	}
	return l
}

func (m *machine) pop() { m.levels = m.levels[:len(m.levels)-1] }

// opens opens what a primary's first word opens.
func (m *machine) opens(w api.Word) bool {
	switch w.Text {
	case "(", "pick.":
		m.push(w.Text, w.At)
	case "{{)m", "{{)d":
		m.push("{{", w.At).n = strings.Index("md", w.Text[3:]) + 1
		m.push("body", w.At)
	default:
		return false
	}
	return true
}

// feed takes the next word.
func (m *machine) feed(w api.Word) {
	l := m.top()
	switch {
	case l.open == "body":
		m.inBody(l, w)
	case l.open == "{{" || l.open == "then" || l.open == "else" || l.open == "loop":
		m.behindBody(l, w)
	case l.sign != nil && l.sign.Text == `"`:
		l.first = w.At
		if w.Kind != 1 {
			panic(syntaxAt(w.At))
		}
		m.give(api.Term{Text: w.Text}, w.At)
	case l.sign != nil:
		l.first = w.At
		if !m.primary(w) {
			panic(syntaxAt(w.At))
		}
	default:
		m.inPhrase(l, w)
	}
}

// primary takes a word with which a primary begins.
func (m *machine) primary(w api.Word) bool {
	switch w.Kind {
	case 1:
		if aloneUnder.MatchString(w.Text) {
			panic(syntaxAt(w.At))
		}
		m.give(num(oracleNumbers(w.Text)...), w.At)
	case 2:
		m.give(noun(w.Text), w.At)
	case 3:
		m.give(verb(w.Text), w.At)
	case 4:
		m.give(prim(w.Text), w.At)
	default:
		return m.opens(w)
	}
	return true
}

var aloneUnder = regexp.MustCompile(`(^| )_( |$)`)

func oracleNumbers(s string) []int64 {
	var out []int64
	for _, field := range strings.Fields(s) {
		n, err := strconv.ParseInt(strings.Replace(field, "_", "-", 1), 10, 64)
		if field == "_" {
			n, err = 64, nil
		}
		if err != nil {
			panic(err)
		}
		out = append(out, n)
	}
	return out
}

// give hands a primary to the level that is on top.
func (m *machine) give(t api.Term, at int) {
	l := m.top()
	if l.sign == nil {
		l.unit = &thing{t, at}
		return
	}
	sign, left := l.sign.Text, l.unit.t
	l.sign = nil
	if sign == `"` {
		if classOf(left) == "V" {
			l.unit.t = ranked(left, oracleNumbers(t.Text)...)
		} else if t.Text == "_" {
			l.unit.t = of(api.VConst, left)
		} else {
			panic(syntaxAt(l.first))
		}
		return
	}
	kind := makes[classOf(left)+sign+classOf(t)]
	switch {
	case kind == 0:
		panic(syntaxAt(l.first))
	case kind != api.VAgenda:
		l.unit.t = of(kind, left, t)
	case left.Kind == -20:
		l.unit.t = of(kind, append([]api.Term{t}, left.Kids...)...)
	default:
		l.unit.t = of(kind, t, left)
	}
}

// mayLeft tells whether some right side fits that left one.
func mayLeft(class, sign string) bool {
	for key := range makes {
		if strings.HasPrefix(key, class+sign) && len(key) == len(class+sign)+1 {
			return true
		}
	}
	return sign == `"` && strings.Contains("VN", class)
}

func (m *machine) inPhrase(l *level, w api.Word) {
	if l.unit != nil {
		class := classOf(l.unit.t)
		switch {
		case class == "G" && w.Text != "@.":
			panic(syntaxAt(w.At))
		case w.Kind == 5:
			if class != "V" {
				panic(syntaxAt(w.At))
			}
			l.unit.t = of(changes[w.Text], l.unit.t)
			return
		case w.Kind == 6 && w.Text != "`":
			if !mayLeft(class, w.Text) {
				panic(syntaxAt(w.At))
			}
			l.sign = &w
			return
		}
		l.units = append(l.units, *l.unit)
		l.unit = nil
	}
	m.betweenUnits(l, w)
}

func (m *machine) betweenUnits(l *level, w api.Word) {
	if l.open == "`" && len(l.units) == 1 {
		m.behindBranch(l, w)
		return
	}
	if w.Text == "[:" {
		l.units = append(l.units, thing{api.Term{Kind: -10}, w.At})
		return
	}
	if m.primary(w) {
		return
	}
	if len(l.units) == 0 {
		panic(syntaxAt(w.At))
	}
	m.close(l, w)
}

// behindBranch: a unit of a gerund has been read.
func (m *machine) behindBranch(l *level, w api.Word) {
	u := l.units[0]
	if classOf(u.t) != "V" {
		panic(syntaxAt(u.at))
	}
	l.done, l.units = append(l.done, u.t), nil
	switch w.Text {
	case "`":
	case ")":
		m.pop()
		m.give(of(-20, l.done...), l.at)
	default:
		panic(syntaxAt(w.At))
	}
}

var soNoun = regexp.MustCompile(`([NO]?V)*[NO]$`)

// together puts a phrase together.
func together(units []thing, end int) api.Term {
	var letters strings.Builder
	for _, u := range units {
		letters.WriteString(classOf(u.t))
	}
	s := letters.String()
	if found := soNoun.FindStringIndex(s); found != nil {
		if found[0] > 0 {
			panic(syntaxAt(units[found[0]-1].at))
		}
		return fromRight(units, s)
	}
	if strings.ContainsAny(s, "NO") {
		panic(syntaxAt(end))
	}
	for i := len(s) - 1; i >= 0; i-- {
		if behind := len(s) - 1 - i; s[i] == 'R' && (behind == 0 || behind%2 == 1) {
			panic(syntaxAt(units[i].at))
		}
	}
	return fromLeft(units)
}

// fromRight is a noun of units whose letters are s.
func fromRight(units []thing, s string) api.Term {
	n := len(units)
	switch {
	case n == 1:
		return units[0].t
	case strings.HasSuffix(s[:1], "V"):
		return mon(units[0].t, fromRight(units[1:], s[1:]))
	}
	return dy(units[1].t, units[0].t, fromRight(units[2:], s[2:]))
}

// fromLeft is a train.
func fromLeft(units []thing) api.Term {
	switch n := len(units); {
	case n == 1:
		return units[0].t
	case n%2 == 0:
		return hook(units[0].t, fromLeft(units[1:]))
	case classOf(units[0].t) == "R":
		return of(api.VCap, units[1].t, fromLeft(units[2:]))
	}
	return fork(units[0].t, units[1].t, fromLeft(units[2:]))
}

// close: the phrase of a level ends at a word.
func (m *machine) close(l *level, w api.Word) {
	if l.open == "(" && w.Text == "`" {
		if last := l.units[len(l.units)-1]; classOf(last.t) != "V" {
			panic(syntaxAt(last.at))
		}
		if len(l.units) == 1 {
			l.open, l.done, l.units = "`", []api.Term{l.units[0].t}, nil
			return
		}
	}
	first := l.units[0].at
	t := together(l.units, w.At)
	one := len(l.units) == 1
	l.units = nil
	if !strings.Contains("whole (", l.open) && term.Class(t) != api.ClassNoun {
		panic(toldFault{at: first, e: api.ErrKind})
	}
	closes := map[string]string{"(": ")", "pick.": "do.", "or.": "or.", "if.": "do.", "while.": "do."}[l.open]
	switch {
	case l.open == "whole":
		if w.Kind != 0 {
			panic(syntaxAt(w.At))
		}
		m.out, m.over = t, true
	case l.open == "say" && w.Text == "=." && one && t.Kind == api.KName && m.number == l.began+1:
		l.open, l.name = "set", t.Text
	case l.open == "say":
		m.said(say(t), w)
	case l.open == "set":
		m.said(set(l.name, t), w)
	case l.open == "or." && w.Text == "end.":
		m.pop()
		m.give(of(api.KPick, append(l.done, t)...), l.at)
	case w.Text != closes:
		panic(syntaxAt(w.At))
	case l.open == "(":
		m.pop()
		m.give(t, l.at)
	default:
		l.done = append(l.done, t)
		l.open = map[string]string{"pick.": "or.", "or.": "or.", "if.": "then", "while.": "loop"}[l.open]
		if l.open != "or." {
			m.push("body", w.At)
		}
	}
}

// said: a sentence has ended ahead of a word.
func (m *machine) said(t api.Term, w api.Word) {
	m.pop()
	body := m.top()
	body.done = append(body.done, t)
	body.name = "a sentence"
	m.feed(w)
}

// inBody takes a word of a body, but of the sentences in it. The body's name tells what stands ahead: nothing, a sentence, or a semicolon.
func (m *machine) inBody(l *level, w api.Word) {
	if l.name == "a sentence" && w.Text == ";" {
		l.name = ";"
		return
	}
	if l.name == "a sentence" || l.name == "" && slices.Contains([]string{"}}", "else.", "end."}, w.Text) {
		m.pop()
		owner := m.top()
		owner.done = append(owner.done, body(l.done...))
		m.feed(w)
		return
	}
	if w.Text == "if." || w.Text == "while." {
		m.push(w.Text, w.At)
		return
	}
	m.push("say", w.At).began = m.number
	m.feed(w)
}

// behindBody takes the word behind a body.
func (m *machine) behindBody(l *level, w api.Word) {
	switch {
	case l.open == "{{" && w.Text == "}}":
		m.pop()
		m.give(api.Term{Kind: api.VDef, N: l.n, Kids: l.done}, l.at)
	case l.open == "then" && w.Text == "else.":
		l.open = "else"
		m.push("body", w.At)
	case w.Text != "end." || l.open == "{{":
		panic(syntaxAt(w.At))
	case l.open == "then":
		m.ended(of(api.SIf, append(l.done, body())...))
	case l.open == "else":
		m.ended(of(api.SIf, l.done...))
	case l.open == "loop":
		m.ended(of(api.SWhile, l.done...))
	}
}

// ended: a sentence has ended with its own last word.
func (m *machine) ended(t api.Term) {
	m.pop()
	m.top().done = append(m.top().done, t)
	m.top().name = "a sentence"
}

// wantedOf is what the words from one on are, as a phrase of a class; kindAt is the place of ErrKind.
func wantedOf(words []api.Word, length, class, kindAt int) (out answer) {
	defer func() {
		switch told := recover().(type) {
		case nil:
		case toldFault:
			out = answer(told)
		default:
			panic(told)
		}
	}()
	m := machine{levels: []*level{{open: "whole"}}}
	for _, w := range words {
		m.feed(w)
		m.number++
	}
	m.feed(api.Word{At: length})
	if term.Class(m.out) != class {
		return answer{at: kindAt, e: api.ErrKind}
	}
	if e := term.May(m.out, class); e != api.OK {
		return answer{at: length, e: e}
	}
	return answer{t: m.out}
}

// wanted is what Verb, or Noun, is to give.
func wanted(s string, class int) answer {
	words, at, e := word.Cut(s)
	if e != api.OK {
		return answer{at: at, e: e}
	}
	return wantedOf(words, len(s), class, 0)
}

var aRequest = regexp.MustCompile(`^ *\)([a-z]+)(?s:(.*))$`)

// wantedLine is what Line is to give, told.
func wantedLine(s string) string {
	fault := func(at int, e api.Errno) string { return lineTold(api.Line{}, at, e) }
	if len(s) > 4096 {
		return fault(0, api.ErrLong)
	}
	if found := aRequest.FindStringSubmatch(s); found != nil {
		l := api.Line{Kind: 4, Name: found[1]}
		if args := strings.Trim(found[2], " "); args != "" {
			l.Args = []string{args}
		}
		return lineTold(l, 0, 0)
	}
	if at := strings.IndexFunc(s, func(r rune) bool { return r != ' ' }); at >= 0 && s[at] == ')' {
		return fault(at+1, api.ErrSyntax)
	}
	words, at, e := word.Cut(s)
	if e != api.OK {
		return fault(at, e)
	}
	if len(words) == 0 {
		return lineTold(api.Line{}, 0, 0)
	}
	l, class, rest := api.Line{Kind: 1}, api.ClassNoun, words
	if len(words) > 1 && words[1].Text == "=:" {
		if words[0].Kind != 2 && words[0].Kind != 3 {
			return fault(words[0].At, api.ErrSyntax)
		}
		l.Kind, l.Name, rest = words[0].Kind, words[0].Text, words[2:]
		class = map[int]int{2: api.ClassNoun, 3: api.ClassVerb}[l.Kind]
	}
	kindAt := 0
	if len(rest) > 0 {
		kindAt = rest[0].At
	}
	got := wantedOf(rest, len(s), class, kindAt)
	if got.e != api.OK {
		return fault(got.at, got.e)
	}
	l.Term = got.t
	return lineTold(l, 0, 0)
}
