package text

import (
	"strconv"
	"strings"

	"secateur/api"
	"secateur/model"
)

// reader puts a model together, line by line.
type reader struct {
	m      api.Model
	places map[string]int // the variables' numbers, by their names
	words  []string       // those of a line that are not yet read
	wrong  bool           // whether something was read that no text has there
}

// line reads a line, and tells whether a text may have it behind those ahead.
func (r *reader) line(s string) bool {
	// A blank too many makes an empty word, and none of those that read a word takes that.
	r.words = strings.Split(s, " ")
	read, kind := r.behind(r.next())
	if read == nil {
		return false
	}
	read(kind)
	return !r.wrong && len(r.words) == 0
}

// behind is what reads the words behind a line's first one, and the kind that it is told; nil, if no line begins so.
func (r *reader) behind(first string) (read func(kind int), kind int) {
	switch first {
	case varWord:
		return r.readVar, 0
	case minWord:
		return r.readGoal, api.GoalMin
	case maxWord:
		return r.readGoal, api.GoalMax
	}
	for kind, word := range conWords {
		if word == first {
			return r.readCon, kind
		}
	}
	return nil, 0
}

// readVar reads a variable, of which there is one kind alone.
func (r *reader) readVar(int) {
	r.must(len(r.m.Cons) == 0 && r.m.Goal.Kind == api.GoalNone)
	// A piece of the text would keep the whole of it in memory.
	v := api.Var{Name: strings.Clone(r.next())}
	_, twice := r.places[v.Name]
	r.must(!twice && model.Name(v.Name))
	r.places[v.Name] = len(r.m.Vars)
	for len(r.words) > 0 {
		v.D = append(v.D, r.values())
	}
	r.m.Vars = append(r.m.Vars, v)
}

func (r *reader) readCon(kind int) {
	r.must(r.m.Goal.Kind == api.GoalNone)
	c := api.Con{Kind: kind}
	switch kind {
	case api.ConReif:
		c.B = r.variable()
		r.stop()
		fallthrough
	case api.ConLin:
		c.Vars, c.Coefs = r.terms(2, r.number)
		c.Op, c.Rhs = r.how(), r.number()
	case api.ConTab:
		c.Vars = r.list(":", r.variable)
		r.stop()
		c.Rows = r.rows()
	case api.ConClause:
		c.Vars, c.Coefs = r.terms(0, r.sign)
	case api.ConLex:
		first := r.list(":", r.variable)
		r.stop()
		second := r.list(":", r.variable)
		r.must(len(first) == len(second))
		c.Vars = append(first, second...)
	case api.ConAll:
		fallthrough
	case api.ConElem:
		c.Vars = r.list(":", r.variable)
	}
	r.m.Cons = append(r.m.Cons, c)
}

func (r *reader) readGoal(kind int) {
	r.must(r.m.Goal.Kind == api.GoalNone)
	vars, coefs := r.terms(0, r.number)
	r.m.Goal = api.Goal{Kind: kind, Vars: vars, Coefs: coefs}
}

// terms reads variables and what stands ahead of each, at least one, till so many words are left.
func (r *reader) terms(left int, ahead func() int) (vars, coefs []int) {
	for more := true; more; more = len(r.words) > left {
		coefs = append(coefs, ahead())
		vars = append(vars, r.variable())
	}
	return vars, coefs
}

// rows reads a table's rows up to the line's end; there may be none.
func (r *reader) rows() [][]int {
	var rows [][]int
	for more := len(r.words) > 0; more; more = r.skip(";") {
		rows = append(rows, r.list(";", r.number))
	}
	return rows
}

// list reads items, at least one, till a word that ends them, or the line's end.
func (r *reader) list(end string, item func() int) []int {
	l := []int{item()}
	for len(r.words) > 0 && r.words[0] != end {
		l = append(l, item())
	}
	return l
}

// values reads a range.
func (r *reader) values() api.Range {
	lo, hi, ok := strings.Cut(r.next(), "..")
	r.must(ok)
	return api.Range{Lo: r.numberOf(lo), Hi: r.numberOf(hi)}
}

// variable reads a variable's name, and is its number.
func (r *reader) variable() int {
	place, ok := r.places[r.next()]
	r.must(ok)
	return place
}

func (r *reader) number() int { return r.numberOf(r.next()) }

func (r *reader) numberOf(word string) int {
	n, err := strconv.Atoi(word)
	// Atoi also takes what no number is written as: zeros ahead, a + ahead, -0.
	r.must(err == nil && strconv.Itoa(n) == word)
	return n
}

// sign reads the - that may stand ahead of a variable, in one word with it.
func (r *reader) sign() int {
	if len(r.words) == 0 || !strings.HasPrefix(r.words[0], "-") {
		return 1
	}
	r.words[0] = r.words[0][1:]
	return -1
}

// how reads how a sum is held against a number.
func (r *reader) how() int {
	word := r.next()
	for op, w := range opWords {
		if w == word {
			return op
		}
	}
	r.must(false)
	return 0
}

// stop reads what stands between two parts of a line.
func (r *reader) stop() { r.must(r.skip(":")) }

// skip goes over a word, if it is the next one.
func (r *reader) skip(word string) bool {
	there := len(r.words) > 0 && r.words[0] == word
	if there {
		r.words = r.words[1:]
	}
	return there
}

// next reads a word; at the line's end it is empty, as no right one is.
func (r *reader) next() string {
	if len(r.words) == 0 {
		return ""
	}
	word := r.words[0]
	r.words = r.words[1:]
	return word
}

func (r *reader) must(ok bool) { r.wrong = r.wrong || !ok }
