package word

import (
	"strconv"
	"strings"

	"abacus/api"
	"abacus/prim"
)

// Kinds of words, in the numbers of api.Word.
const (
	unknown = iota
	number
	noun
	verb
	primitive
	adverb
	conjunction
	mark
)

// spellings are the words that are known by their whole text, each with its kind, but for the primitives: those are prim's to tell.
func spellings() map[string]int {
	return map[string]int{
		"/": adverb, "\\": adverb, "\\.": adverb, "~": adverb,
		"@": conjunction, "@:": conjunction, "@.": conjunction,
		"&": conjunction, "&:": conjunction, "&.": conjunction, "&.:": conjunction,
		"..": conjunction, "::": conjunction, ":.": conjunction, ":": conjunction,
		"^:": conjunction, "\"": conjunction, "`": conjunction,
		"=.": mark, "=:": mark, "[:": mark,
		"if.": mark, "do.": mark, "else.": mark, "end.": mark, "while.": mark, "pick.": mark, "or.": mark,
	}
}

// cutter goes through a line from the left and gathers its words. It stands at a word's first byte until that is taken, at that of a number within a list: so an error's place is where it stands.
type cutter struct {
	line  string
	at    int
	kinds map[string]int // by their texts
	words []api.Word
}

// next takes the word, or the remark, that begins here.
func (c *cutter) next() api.Errno {
	switch b := c.line[c.at]; {
	case beginsNumber(b):
		return c.takeNumbers()
	case isLetter(b):
		return c.takeLetters()
	case b == ')':
		if request := c.request(); request != "" {
			return c.take(mark, request)
		}
		fallthrough
	case b == '(', b == ';':
		return c.take(mark, c.line[c.at:c.at+1])
	case b == '{', b == '}':
		if bracket := c.bracket(); bracket != "" {
			return c.takeBracket(bracket)
		}
		fallthrough
	default:
		return c.takeKnown(c.sign())
	}
}

// take gathers a word that begins here. Its text is a copy: a piece of the line would share the line's memory.
func (c *cutter) take(kind int, text string) api.Errno {
	c.words = append(c.words, api.Word{Kind: kind, Text: strings.Clone(text), At: c.at})
	c.at += len(text)
	return api.OK
}

// takeKnown gathers a word that is known by its text.
func (c *cutter) takeKnown(text string) api.Errno {
	kind := c.kindOf(text)
	if kind == unknown {
		return api.ErrToken
	}
	return c.take(kind, text)
}

// kindOf tells a text's kind. A primitive that was found is kept for the rest of the line: prim.Of makes its catalogue anew each time.
func (c *cutter) kindOf(text string) int {
	if kind, has := c.kinds[text]; has {
		return kind
	}
	if _, has := prim.Of(text); has {
		c.kinds[text] = primitive
		return primitive
	}
	return unknown
}

// takeNumbers gathers all numbers with blanks alone between them as one word.
func (c *cutter) takeNumbers() api.Errno {
	var text strings.Builder
	first := c.at
	for c.at < len(c.line) && beginsNumber(c.line[c.at]) {
		run := c.run(0, isOfNumber)
		if !isNumber(run) {
			return api.ErrNumber
		}
		if text.Len() > 0 {
			text.WriteByte(' ')
		}
		text.WriteString(run)
		c.at += len(run)
		c.skipBlanks()
	}
	c.words = append(c.words, api.Word{Kind: number, Text: text.String(), At: first})
	return api.OK
}

// takeLetters gathers a name, or a word of letters with a dot.
func (c *cutter) takeLetters() api.Errno {
	name := c.run(0, isOfName)
	end := c.at + len(name)
	if end < len(c.line) && c.line[end] == '.' {
		return c.takeDotted(c.line[c.at : end+1])
	}
	if len(name) > api.MaxName {
		return api.ErrToken
	}
	if isCapital(name[0]) {
		return c.take(verb, name)
	}
	return c.take(noun, name)
}

// takeDotted gathers a primitive or a control word, or passes over a remark.
func (c *cutter) takeDotted(text string) api.Errno {
	if text == "NB." {
		c.at = len(c.line)
		return api.OK
	}
	return c.takeKnown(text)
}

// request tells the request that begins here; empty: there is none.
func (c *cutter) request() string {
	if c.at > 0 {
		return ""
	}
	letters := c.run(1, isLetter)
	if letters == "" {
		return ""
	}
	return c.line[:1+len(letters)]
}

// bracket tells the bracket of a definition that begins here, be it one of no kind, {{ alone; empty: there is none.
func (c *cutter) bracket() string {
	rest := c.line[c.at:]
	for _, bracket := range []string{"{{)m", "{{)d", "{{", "}}"} {
		if strings.HasPrefix(rest, bracket) {
			return bracket
		}
	}
	return ""
}

// takeBracket gathers a bracket of a definition.
func (c *cutter) takeBracket(bracket string) api.Errno {
	if bracket == "{{" {
		return api.ErrToken
	}
	return c.take(mark, bracket)
}

// sign tells the byte here with all dots and colons right behind it.
func (c *cutter) sign() string {
	return c.line[c.at : c.at+1+len(c.run(1, isInflection))]
}

// run tells the longest run of bytes that fit, ahead bytes from here on.
func (c *cutter) run(ahead int, fits func(byte) bool) string {
	from := c.at + ahead
	end := from
	for end < len(c.line) && fits(c.line[end]) {
		end++
	}
	return c.line[from:end]
}

func (c *cutter) skipBlanks() { c.at += len(c.run(0, isBlank)) }

// isNumber tells whether a run of letters, digits and _ is a number. What is told again must be the same text: so there is no 0 ahead of other digits, and no _0.
func isNumber(run string) bool {
	signed := run
	if digits, has := strings.CutPrefix(run, "_"); has {
		signed = "-" + digits
	}
	n, err := strconv.ParseInt(signed, 10, 64)
	return run == "_" || err == nil && strconv.FormatInt(n, 10) == signed
}

func isBlank(b byte) bool      { return b == ' ' }
func isDigit(b byte) bool      { return b >= '0' && b <= '9' }
func isCapital(b byte) bool    { return b >= 'A' && b <= 'Z' }
func isLetter(b byte) bool     { return b >= 'a' && b <= 'z' || isCapital(b) }
func isInflection(b byte) bool { return b == '.' || b == ':' }
func isOfName(b byte) bool     { return isLetter(b) || isDigit(b) }
func beginsNumber(b byte) bool { return isDigit(b) || b == '_' }
func isOfNumber(b byte) bool   { return isLetter(b) || beginsNumber(b) }
