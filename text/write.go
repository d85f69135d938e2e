package text

import (
	"strconv"
	"strings"

	"secateur/api"
)

// writer writes a model's lines. It is handed what has a text alone.
type writer struct {
	vars  []api.Var
	text  strings.Builder
	words []string // of the line that is not yet written
}

func (w *writer) variable(v api.Var) {
	w.put(varWord, v.Name)
	for _, r := range v.D {
		w.put(strconv.Itoa(r.Lo) + ".." + strconv.Itoa(r.Hi))
	}
	w.end()
}

func (w *writer) con(c api.Con) {
	w.put(conWords[c.Kind])
	switch c.Kind {
	case api.ConReif:
		w.names([]int{c.B})
		w.put(":")
		fallthrough
	case api.ConLin:
		w.sum(c.Vars, c.Coefs)
		w.put(opWords[c.Op])
		w.numbers([]int{c.Rhs})
	case api.ConTab:
		w.names(c.Vars)
		w.put(":")
		w.rows(c.Rows)
	case api.ConClause:
		w.signed(c.Vars, c.Coefs)
	case api.ConLex:
		half := len(c.Vars) / 2
		w.names(c.Vars[:half])
		w.put(":")
		w.names(c.Vars[half:])
	case api.ConAll:
		fallthrough
	case api.ConElem:
		w.names(c.Vars)
	}
	w.end()
}

func (w *writer) goal(g api.Goal) {
	switch g.Kind {
	case api.GoalNone:
		return
	case api.GoalMin:
		w.put(minWord)
	case api.GoalMax:
		w.put(maxWord)
	}
	w.sum(g.Vars, g.Coefs)
	w.end()
}

func (w *writer) names(vars []int) {
	for _, v := range vars {
		w.put(w.vars[v].Name)
	}
}

func (w *writer) numbers(l []int) {
	for _, n := range l {
		w.put(strconv.Itoa(n))
	}
}

func (w *writer) sum(vars, coefs []int) {
	for i, v := range vars {
		w.put(strconv.Itoa(coefs[i]), w.vars[v].Name)
	}
}

func (w *writer) signed(vars, signs []int) {
	for i, v := range vars {
		word := w.vars[v].Name
		if signs[i] == -1 {
			word = "-" + word
		}
		w.put(word)
	}
}

func (w *writer) rows(rows [][]int) {
	for i, row := range rows {
		if i > 0 {
			w.put(";")
		}
		w.numbers(row)
	}
}

func (w *writer) put(words ...string) { w.words = append(w.words, words...) }

func (w *writer) end() {
	w.text.WriteString(strings.Join(w.words, " "))
	w.text.WriteByte('\n')
	w.words = w.words[:0]
}
