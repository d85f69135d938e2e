package meaning

import (
	"math"
	"reflect"
	"slices"
	"strconv"
	"strings"
	"testing"

	"secateur/api"
	"secateur/dom"
	"secateur/model"
	"secateur/text"
)

const top = 1 << 20

// read is a model of a text.
func read(t *testing.T, s string) api.Model {
	t.Helper()
	m, e := text.Parse(s)
	if e != api.OK {
		t.Fatal(s, e)
	}
	return m
}

// right is a model of a text, and one that is checked.
func right(t *testing.T, s string) api.Model {
	t.Helper()
	m := read(t, s)
	if e := model.Check(m); e != api.OK {
		t.Fatal(s, e)
	}
	return m
}

// named are variables a0, a1, .. with the values 0 to hi.
func named(n, hi int) []api.Var {
	var l []api.Var
	for i := range n {
		l = append(l, api.Var{Name: "a" + strconv.Itoa(i), D: []api.Range{{Lo: 0, Hi: hi}}})
	}
	return l
}

// numbers are those from 0 on.
func numbers(n int) []int {
	var l []int
	for i := range n {
		l = append(l, i)
	}
	return l
}

// dice are numbers that look like chance, and are the same ones each time.
type dice uint64

func (r *dice) next(n int) int {
	*r = *r*6364136223846793005 + 1442695040888963407
	return int(uint64(*r)>>33) % n
}

func (r *dice) of(l ...int) int { return l[r.next(len(l))] }

// some are n numbers out of a list, none of them twice.
func (r *dice) some(n int, out []int) []int {
	out = slices.Clone(out)
	for i := range n {
		j := i + r.next(len(out)-i)
		out[i], out[j] = out[j], out[i]
	}
	return out[:n:n]
}

// slowHolds tells of a constraint by the words of P6.1, one by one.
func slowHolds(c api.Con, a []int) bool {
	of := func(v int) int {
		for i, x := range a {
			if i == v {
				return x
			}
		}
		return 0
	}
	total, clause := 0, false
	for i, v := range c.Vars {
		if len(c.Coefs) > 0 {
			total += c.Coefs[i] * of(v)
			clause = clause || c.Coefs[i] == 1 && of(v) == 1 || c.Coefs[i] == -1 && of(v) == 0
		}
	}
	so := c.Op == api.Le && total <= c.Rhs || c.Op == api.Eq && total == c.Rhs || c.Op == api.Ne && (total < c.Rhs || total > c.Rhs)
	n := len(c.Vars)
	switch c.Kind {
	case api.ConLin:
		return so
	case api.ConAll:
		for i := range n {
			for j := range i {
				if of(c.Vars[i]) == of(c.Vars[j]) {
					return false
				}
			}
		}
		return true
	case api.ConTab:
		for _, row := range c.Rows {
			same := 0
			for i, x := range row {
				if of(c.Vars[i]) == x {
					same++
				}
			}
			if same == n {
				return true
			}
		}
		return false
	case api.ConElem:
		for i := range n - 2 {
			if of(c.Vars[0]) == i {
				return of(c.Vars[1]) == of(c.Vars[i+2])
			}
		}
		return false
	case api.ConReif:
		return so && of(c.B) == 1 || !so && of(c.B) == 0
	case api.ConClause:
		return clause
	}
	for i := range n / 2 {
		if x, y := of(c.Vars[i]), of(c.Vars[i+n/2]); x != y {
			return x < y
		}
	}
	return true
}

// slowAhead tells of two lists by the words of P6.2.
func slowAhead(a, b []int) bool {
	for i := 0; i < len(a) && i < len(b); i++ {
		if a[i] != b[i] {
			return a[i] < b[i]
		}
	}
	return len(a) < len(b)
}

// slowSolves tells of a model by the words of P6.2.
func slowSolves(m api.Model, a []int) bool {
	if len(a) != len(m.Vars) {
		return false
	}
	for i, v := range m.Vars {
		in := false
		for _, r := range v.D {
			in = in || a[i] >= r.Lo && a[i] <= r.Hi
		}
		if !in {
			return false
		}
	}
	for _, c := range m.Cons {
		if !slowHolds(c, a) {
			return false
		}
	}
	return true
}

// box are all lists of so many numbers from lo to hi, those that stand ahead first.
func box(n, lo, hi int) [][]int {
	l := [][]int{{}}
	for range n {
		var longer [][]int
		for _, a := range l {
			for v := lo; v <= hi; v++ {
				longer = append(longer, append(slices.Clone(a), v))
			}
		}
		l = longer
	}
	return l
}

// heldCase is a constraint, and lists of values of which it holds and of which it does not.
type heldCase struct {
	c       api.Con
	yes, no [][]int
}

func checkHeld(t *testing.T, cases map[string]heldCase) {
	t.Helper()
	for name, x := range cases {
		for want, lists := range map[bool][][]int{true: x.yes, false: x.no} {
			for _, a := range lists {
				if Holds(x.c, a) != want {
					t.Errorf("%s, of %v: %v", name, a, !want)
				}
				if slowHolds(x.c, a) != want {
					t.Errorf("%s, of %v: the slow way says %v", name, a, !want)
				}
			}
		}
	}
}

// lin is a sum over the variables from 0 on.
func lin(op, rhs int, coefs ...int) api.Con {
	return api.Con{Kind: api.ConLin, Vars: numbers(len(coefs)), Coefs: coefs, Op: op, Rhs: rhs}
}

// P6.1: sums, held against a number in each way.
func TestHoldsLin(t *testing.T) {
	crossed := api.Con{Kind: api.ConLin, Vars: []int{3, 1}, Coefs: []int{2, -5}, Op: api.Eq, Rhs: -1}
	checkHeld(t, map[string]heldCase{
		"at most":           {lin(api.Le, 5, 2, -1), [][]int{{0, 0}, {3, 1}, {2, 0}, {-9, 9}}, [][]int{{3, 0}, {4, 2}}},
		"at most, below 0":  {lin(api.Le, -3, 1), [][]int{{-3}, {-4}}, [][]int{{-2}, {0}, {3}, nil}},
		"is":                {lin(api.Eq, 1, 1, 1), [][]int{{0, 1}, {1, 0}, {-1, 2}, {1}}, [][]int{{0, 0}, {1, 1}, {0, 2}, {0}, nil}},
		"is not":            {lin(api.Ne, 1, 1, 1), [][]int{{0, 0}, {1, 1}, {0}, nil}, [][]int{{0, 1}, {1, 0}, {-1, 2}, {1}}},
		"is 0":              {lin(api.Eq, 0, 3, -3), [][]int{nil, {}, {0}, {0, 0}, {7, 7}, {7, 7, 1}}, [][]int{{1}, {1, 0}, {0, 1}}},
		"at most 0":         {lin(api.Le, 0, 1), [][]int{nil, {0}, {-1}, {0, 9}}, [][]int{{1}, {1, -9}}},
		"is not 0":          {lin(api.Ne, 0, 1), [][]int{{1}, {-1}}, [][]int{nil, {}, {0}, {0, 1}}},
		"other places":      {crossed, [][]int{{9, 1, 9, 2}, {0, 5, 0, 12}, {0, 1, 0, 2, 8}}, [][]int{{2, 1, 9, 9}, {9, 1, 2}, {1, 2, 2, 1}, nil}},
		"beyond, at most":   {lin(api.Le, -1, 1, 1), [][]int{{-1}, {0, -1}}, [][]int{nil, {0}, {5}}},
		"of the last place": {api.Con{Vars: []int{63}, Coefs: []int{1}, Rhs: -1}, [][]int{append(make([]int, 63), -1)}, [][]int{nil, make([]int, 63), make([]int, 64), slices.Repeat([]int{-1}, 63)}},
	})
}

// P6.1: sums that come up to 2^62 and down to -2^62, on the way too.
func TestHoldsGreatSums(t *testing.T) {
	most := lin(api.Le, 0, 1<<42)
	half := lin(api.Eq, 0, 1<<41, -1<<41)
	with := lin(api.Eq, 1<<61, 1<<40, 1<<40)
	eight := lin(api.Eq, 0, slices.Repeat([]int{1 << 39}, 8)...)
	checkHeld(t, map[string]heldCase{
		"one number":    {most, [][]int{{-top}, {0}, {-1}}, [][]int{{top}, {1}}},
		"two numbers":   {half, [][]int{{top, top}, {-top, -top}, {0, 0}}, [][]int{{top, -top}, {-top, top}, {top, top - 1}}},
		"with a Rhs":    {with, [][]int{{top, top}}, [][]int{{-top, -top}, {top, top - 1}, {0, 0}}},
		"Rhs far below": {lin(api.Le, 1-1<<62+top, 1), nil, [][]int{{-top}, {top}}},
		"Rhs far above": {lin(api.Le, 1<<62-top, 1), [][]int{{-top}, {top}}, nil},
		"eight":         {eight, [][]int{{top, top, top, top, -top, -top, -top, -top}}, [][]int{slices.Repeat([]int{top}, 8), slices.Repeat([]int{-top}, 8)}},
	})
	if n := Value(api.Goal{Kind: api.GoalMax, Vars: numbers(8), Coefs: eight.Coefs}, slices.Repeat([]int{top}, 8)); n != 1<<62 {
		t.Error(n)
	}
	if n := Value(api.Goal{Kind: api.GoalMin, Vars: numbers(8), Coefs: eight.Coefs}, slices.Repeat([]int{-top}, 8)); n != -1<<62 {
		t.Error(n)
	}
}

// P6.1: all others.
func TestHoldsAll(t *testing.T) {
	all := func(vars ...int) api.Con { return api.Con{Kind: api.ConAll, Vars: vars} }
	many := numbers(64)
	twice := append(numbers(63), 0)
	checkHeld(t, map[string]heldCase{
		"one":         {all(0), [][]int{nil, {0}, {5}, {5, 5}}, nil},
		"two":         {all(0, 1), [][]int{{0, 1}, {1, 0}, {-1, 1}, {3}}, [][]int{nil, {}, {0}, {0, 0}, {7, 7}}},
		"three":       {all(2, 0, 1), [][]int{{0, 1, 2}, {5, -5, 0}, {1, 2}}, [][]int{{1, 1, 2}, {2, 1, 2}, {1, 2, 2}, {1, 0}, {0, 1}, {3}, nil}},
		"not others":  {all(0, 3), [][]int{{1, 1, 1, 2}, {1, 1, 1}}, [][]int{{1, 2, 3, 1}, {0, 2, 3}}},
		"the ends":    {all(0, 1), [][]int{{-top, top}}, [][]int{{top, top}, {-top, -top}}},
		"many":        {all(many...), [][]int{many, append(many, 0)}, [][]int{twice, numbers(62)}},
		"0 is beyond": {all(0, 1, 2), [][]int{{4, 5}}, [][]int{{4, 0}}},
	})
}

// P6.1: tables.
func TestHoldsTab(t *testing.T) {
	tab := func(vars []int, rows ...[]int) api.Con { return api.Con{Kind: api.ConTab, Vars: vars, Rows: rows} }
	var squares [][]int
	for i := range api.MaxRows {
		squares = append(squares, []int{i, i * i % top})
	}
	checkHeld(t, map[string]heldCase{
		"two rows":           {tab([]int{0, 1}, []int{1, 2}, []int{3, 4}), [][]int{{1, 2}, {3, 4}, {3, 4, 5}}, [][]int{{1, 4}, {3, 2}, {2, 1}, {1}, nil}},
		"other places":       {tab([]int{2, 0}, []int{1, 2}), [][]int{{2, 9, 1}}, [][]int{{1, 9, 2}, {1, 2, 9}, {2, 1}}},
		"no rows":            {tab([]int{0}), nil, [][]int{nil, {0}, {1}}},
		"no rows of several": {tab([]int{0, 1}, [][]int{}...), nil, [][]int{nil, {0, 0}, {1, 2}}},
		"a row of 0":         {tab([]int{0, 1}, []int{0, 0}), [][]int{nil, {}, {0}, {0, 0}}, [][]int{{1}, {0, 1}}},
		"beyond":             {tab([]int{0, 5}, []int{7, 0}), [][]int{{7}, {7, 1, 1, 1, 1}, {7, 1, 1, 1, 1, 0}}, [][]int{{7, 0, 0, 0, 0, 1}, nil}},
		"a row twice":        {tab([]int{0}, []int{3}, []int{3}), [][]int{{3}}, [][]int{{2}, {4}}},
		"one differs":        {tab([]int{0, 1, 2}, []int{1, 2, 3}), [][]int{{1, 2, 3}}, [][]int{{0, 2, 3}, {1, 0, 3}, {1, 2, 0}, {1, 2}}},
		"the ends":           {tab([]int{0, 1}, []int{top, -top}), [][]int{{top, -top}}, [][]int{{-top, top}}},
		"many":               {tab([]int{0, 1}, squares...), [][]int{nil, {1023, 1023 * 1023}, {512, 512 * 512}}, [][]int{{1023, 0}, {1024, 1024 * 1024}, {-1, 1}}},
	})
}

// P6.1: elements: the index's ends, and the variable that it names.
func TestHoldsElem(t *testing.T) {
	elem := func(vars ...int) api.Con { return api.Con{Kind: api.ConElem, Vars: vars} }
	far := append([]int{61, 7}, make([]int, 62)...)
	far[63] = 7
	checkHeld(t, map[string]heldCase{
		"three of a list":    {elem(0, 1, 2, 3, 4), [][]int{{0, 7, 7, 8, 9}, {1, 8, 7, 8, 9}, {2, 9, 7, 8, 9}}, [][]int{{0, 8, 7, 8, 9}, {1, 7, 7, 8, 9}, {2, 8, 7, 8, 9}}},
		"below and beyond":   {elem(0, 1, 2, 3, 4), nil, [][]int{{-1, 7, 7, 7, 7}, {-2, 7, 7, 7, 7}, {3, 7, 7, 7, 7, 7}, {3, 0, 0, 0, 0}, {4, 7, 7, 7, 7, 7, 7}, {-top, 0, 0, 0, 0}, {top, 0, 0, 0, 0}, {-1, -1, -1, -1, -1}}},
		"a list of one":      {elem(0, 1, 2), [][]int{{0, 5, 5}, {0, 0}, {0}, nil}, [][]int{{0, 5, 6}, {1, 5, 5}, {-1, 5, 5}, {0, 5}, {1}}},
		"a short list":       {elem(0, 1, 2, 3), [][]int{{1, 0}, {1, 0, 4}, {1}, {0, 4, 4}}, [][]int{{1, 4, 4}, {0, 4}, {2}}},
		"other places":       {elem(3, 2, 1, 0), [][]int{{5, 6, 6, 0}, {5, 6, 5, 1}}, [][]int{{5, 6, 5, 0}, {5, 6, 6, 1}, {5, 5, 5, 2}}},
		"the index's own":    {elem(0, 1, 2, 3), [][]int{{1, 3, 2, 3}}, [][]int{{1, 2, 2, 3}, {1, 1, 1, 3}}},
		"the last of a long": {elem(numbers(64)...), [][]int{far}, [][]int{slices.Replace(slices.Clone(far), 0, 1, 62), slices.Replace(slices.Clone(far), 0, 1, 60), slices.Replace(slices.Clone(far), 1, 2, 0)}},
	})
}

// P6.1: what tells of a sum is 1 just if it is so, and 0 if not; any other value is neither.
func TestHoldsReif(t *testing.T) {
	for op, so := range map[int][]int{api.Le: {-9, 2, 3}, api.Eq: {3}, api.Ne: {-9, 2, 4, 9}} {
		c := lin(op, 3, 1)
		c.Kind, c.B = api.ConReif, 1
		for _, x := range []int{-9, 2, 3, 4, 9} {
			for _, b := range []int{-top, -1, 0, 1, 2, 3, top} {
				want := b == 1 && slices.Contains(so, x) || b == 0 && !slices.Contains(so, x)
				if Holds(c, []int{x, b}) != want {
					t.Error(op, x, b, !want)
				}
			}
		}
	}
	first := api.Con{Kind: api.ConReif, Vars: []int{1, 2}, Coefs: []int{1, -1}, Op: api.Eq}
	beyond := api.Con{Kind: api.ConReif, Vars: []int{0}, Coefs: []int{1}, Op: api.Ne, Rhs: 4, B: 5}
	checkHeld(t, map[string]heldCase{
		"the first one tells": {first, [][]int{{1, 4, 4}, {0, 4, 5}, {1}, {0, 1}}, [][]int{nil, {}, {0}, {0, 4, 4}, {1, 4, 5}, {2, 4, 4}, {2, 4, 5}, {-1, 4, 5}}},
		"it is beyond":        {beyond, [][]int{{4}, {4, 1, 1, 1, 1}, {5, 0, 0, 0, 0, 1}}, [][]int{nil, {5}, {3, 1, 1, 1, 1}, {4, 0, 0, 0, 0, 1}}},
	})
}

// P6.1: clauses: one with 1 has to be 1, or one with -1 to be 0; any other value is neither.
func TestHoldsClause(t *testing.T) {
	clause := func(coefs ...int) api.Con {
		return api.Con{Kind: api.ConClause, Vars: numbers(len(coefs)), Coefs: coefs}
	}
	crossed := api.Con{Kind: api.ConClause, Vars: []int{2, 0}, Coefs: []int{1, -1}}
	last := append(slices.Repeat([]int{1}, 63), -1)
	checkHeld(t, map[string]heldCase{
		"so":              {clause(1), [][]int{{1}, {1, 0}}, [][]int{nil, {}, {0}, {2}, {-1}, {0, 1}}},
		"not so":          {clause(-1), [][]int{nil, {}, {0}, {0, 1}}, [][]int{{1}, {2}, {-1}, {1, 0}}},
		"two":             {clause(1, 1), [][]int{{0, 1}, {1, 0}, {1, 1}, {1}}, [][]int{{0, 0}, {0}, nil, {2, -1}}},
		"two, one not":    {clause(1, -1), [][]int{{1, 1}, {0, 0}, {1, 0}, {0}, {1}, nil, {5, 0}}, [][]int{{0, 1}, {5, 1}, {0, 5}}},
		"none of two":     {clause(-1, -1), [][]int{{0, 0}, {0, 1}, {1, 0}, {1}, nil}, [][]int{{1, 1}, {2, 1}}},
		"other places":    {crossed, [][]int{{1, 0, 1}, {0, 1, 0}, {0}}, [][]int{{1, 1, 0}, {1, 0, 0}, {1}}},
		"the last of all": {clause(last...), [][]int{make([]int, 64), make([]int, 63), append(make([]int, 62), 1, 1)}, [][]int{append(make([]int, 63), 1)}},
	})
}

// P6.1: lists in order: the same, and others at the first or the last place only.
func TestHoldsLex(t *testing.T) {
	lex := func(vars ...int) api.Con { return api.Con{Kind: api.ConLex, Vars: vars} }
	checkHeld(t, map[string]heldCase{
		"one":            {lex(0, 1), [][]int{{0, 0}, {0, 1}, {-2, -1}, nil, {-1}, {0}}, [][]int{{1, 0}, {-1, -2}, {1}}},
		"three":          {lex(0, 1, 2, 3, 4, 5), [][]int{{5, 5, 5, 5, 5, 5}, {4, 5, 5, 5, 5, 5}, {5, 5, 4, 5, 5, 5}, {5, 4, 9, 5, 5, 5}, {4, 9, 9, 5, 0, 0}}, [][]int{{6, 5, 5, 5, 5, 5}, {5, 5, 6, 5, 5, 5}, {5, 6, 0, 5, 5, 5}, {6, 0, 0, 5, 9, 9}}},
		"a short list":   {lex(0, 1, 2, 3), [][]int{nil, {0, 0}, {-1, 9}, {0, -1}, {3, 4, 4}}, [][]int{{1}, {0, 1}, {3, 4, 3}}},
		"with itself":    {lex(0, 0), [][]int{nil, {0}, {5}, {-5}}, nil},
		"overlapping":    {lex(0, 1, 1, 2), [][]int{{1, 2, 0}, {1, 1, 1}, {1, 1, 2}}, [][]int{{2, 1, 9}, {1, 1, 0}}},
		"there twice":    {lex(0, 0, 1, 2), [][]int{{1, 1, 1}, {1, 2, 0}}, [][]int{{1, 1, 0}, {1, 0, 9}}},
		"other places":   {lex(3, 1, 2, 0), [][]int{{0, 9, 5, 4}, {7, 7, 5, 5}}, [][]int{{0, 0, 4, 5}, {6, 7, 5, 5}}},
		"the ends":       {lex(0, 1), [][]int{{-top, top}, {top, top}}, [][]int{{top, -top}}},
		"halves swapped": {lex(1, 0, 0, 1), [][]int{{2, 1}, {1, 1}}, [][]int{{1, 2}}},
	})
}

// rightCon is a constraint that is right over six variables, of which the last three are truths.
func rightCon(r *dice) api.Con {
	c := api.Con{Kind: r.next(api.ConKinds)}
	switch c.Kind {
	case api.ConLin, api.ConReif:
		vars := r.some(2+r.next(3), numbers(5))
		c.Vars, c.Op, c.Rhs = vars, r.next(api.Ops), r.next(9)-3
		for range c.Vars {
			c.Coefs = append(c.Coefs, r.of(-2, -1, 1, 3))
		}
		if c.Kind == api.ConReif {
			c.B = 5
		}
	case api.ConAll:
		c.Vars = r.some(1+r.next(3), numbers(6))
	case api.ConTab:
		c.Vars = r.some(1+r.next(3), numbers(6))
		for range r.next(9) {
			row := make([]int, len(c.Vars))
			for i := range row {
				row[i] = r.next(4) - 1
			}
			c.Rows = append(c.Rows, row)
		}
	case api.ConElem:
		c.Vars = r.some(3+r.next(4), numbers(6))
	case api.ConClause:
		c.Vars = r.some(1+r.next(3), []int{3, 4, 5})
		for range c.Vars {
			c.Coefs = append(c.Coefs, r.of(-1, 1))
		}
	case api.ConLex:
		for range 2 * (1 + r.next(3)) {
			c.Vars = append(c.Vars, r.next(6))
		}
	}
	return c
}

// places are the domains that rightCon's constraints are over.
func places(r *dice) []api.Var {
	vars := named(6, 1)
	for i := range 3 {
		vars[i].D, _ = dom.Of(r.some(1+r.next(3), []int{-1, 0, 1, 2}))
	}
	return vars
}

// P6.1: constraints that look like chance, of lists of all lengths, against the slow way.
func TestHoldsOfMany(t *testing.T) {
	r := dice(61)
	var held, not [api.ConKinds]int
	d := model.Doms(api.Model{Vars: places(&r)})
	for range 30000 {
		c := rightCon(&r)
		if e := model.Con(d, c); e != api.OK {
			t.Fatal(c, e)
		}
		a := make([]int, r.next(9))
		for i := range a {
			a[i] = r.next(4) - 1
		}
		want := slowHolds(c, a)
		if Holds(c, a) != want {
			t.Fatal(c, a, !want)
		}
		if want {
			held[c.Kind]++
		} else {
			not[c.Kind]++
		}
	}
	for kind := range api.ConKinds {
		if held[kind] < 200 || not[kind] < 200 {
			t.Error("seldom met", kind, held[kind], not[kind])
		}
	}
}

// P6.1: as if the list went on with 0 to the end.
func TestBeyondTheListIs0(t *testing.T) {
	r := dice(62)
	for range 10000 {
		c := rightCon(&r)
		a := make([]int, r.next(6))
		for i := range a {
			a[i] = r.next(4) - 1
		}
		long := append(slices.Clone(a), make([]int, 6-len(a))...)
		if Holds(c, a) != Holds(c, long) {
			t.Fatal(c, a)
		}
		if c.Kind == api.ConLin {
			g := api.Goal{Kind: api.GoalMin, Vars: c.Vars, Coefs: c.Coefs}
			if Value(g, a) != Value(g, long) {
				t.Fatal(g, a)
			}
		}
	}
}

// P6.2: values of a model: how many, of which domains, and with what they hold.
func TestSolves(t *testing.T) {
	m := right(t, "var x 0..2 5..6 9..9\nvar y -1..1\nlin 1 x 1 y != 2\nlin 1 x -1 y <= 8\n")
	for _, x := range []struct {
		a    []int
		want bool
	}{
		{nil, false}, {[]int{}, false}, {[]int{0}, false}, {[]int{0, 0, 0}, false}, {[]int{0, 0, 1}, false},
		{[]int{0, 0}, true}, {[]int{2, 1}, true}, {[]int{5, -1}, true}, {[]int{6, 1}, true}, {[]int{9, 1}, true},
		{[]int{-1, 0}, false}, {[]int{3, 0}, false}, {[]int{4, 0}, false}, {[]int{7, 0}, false}, {[]int{8, 0}, false}, {[]int{10, 1}, false},
		{[]int{0, -2}, false}, {[]int{0, 2}, false}, {[]int{0, math.MaxInt}, false}, {[]int{math.MinInt, 0}, false},
		{[]int{1, 1}, false}, {[]int{2, 0}, false}, {[]int{9, 0}, false}, {[]int{9, -1}, false},
	} {
		if Solves(m, x.a) != x.want || slowSolves(m, x.a) != x.want {
			t.Error(x.a, !x.want)
		}
	}
}

// P6.2: models without variables, without constraints, and with a constraint at each place that does not hold.
func TestSolvesEdges(t *testing.T) {
	if !Solves(api.Model{}, nil) || !Solves(api.Model{Vars: []api.Var{}, Cons: []api.Con{}}, []int{}) || Solves(api.Model{}, []int{0}) {
		t.Error("no variables")
	}
	m := api.Model{Vars: named(3, 2)}
	if !Solves(m, []int{0, 2, 1}) || Solves(m, []int{0, 2, 3}) || Solves(m, []int{0, 2}) || Solves(m, []int{0, 2, 1, 0}) {
		t.Error("no constraints")
	}
	for at := range 4 {
		m.Cons = slices.Repeat([]api.Con{lin(api.Eq, 3, 1, 1, 1)}, 4)
		if !Solves(m, []int{0, 2, 1}) {
			t.Error("all hold")
		}
		m.Cons[at] = lin(api.Ne, 3, 1, 1, 1)
		if Solves(m, []int{0, 2, 1}) {
			t.Error("one does not hold", at)
		}
	}
	goal := right(t, "var x 0..1\nmin 1 x\n")
	if !Solves(goal, []int{0}) || !Solves(goal, []int{1}) {
		t.Error("a goal takes no solution")
	}
	far := right(t, "var x 0..1\nvar y -1048576..-1048576 1048576..1048576\n")
	if !Solves(far, []int{1, top}) || !Solves(far, []int{1, -top}) || Solves(far, []int{1, top + 1}) || Solves(far, []int{1, -top - 1}) || Solves(far, []int{1, 0}) {
		t.Error("the ends")
	}
}

// P6.2: what goals come to.
func TestValue(t *testing.T) {
	for _, kind := range []int{api.GoalMin, api.GoalMax} {
		for _, x := range []struct {
			vars, coefs, a []int
			want           int
		}{
			{[]int{0, 1}, []int{2, -1}, []int{2, 1}, 3},
			{[]int{0, 1}, []int{2, -1}, []int{1, 2}, 0},
			{[]int{1, 0}, []int{2, -1}, []int{1, 2}, 3},
			{[]int{0, 1}, []int{2, -1}, []int{-1, 2}, -4},
			{[]int{0, 1}, []int{2, -1}, []int{5}, 10},
			{[]int{0, 1}, []int{2, -1}, nil, 0},
			{[]int{0, 1}, []int{2, -1}, []int{5, 1, 100}, 9},
			{[]int{2}, []int{7}, []int{1, 1, 3}, 21},
			{[]int{2}, []int{7}, []int{1, 1}, 0},
			{[]int{63}, []int{-1}, numbers(64), -63},
			{[]int{0}, []int{1 << 42}, []int{top}, 1 << 62},
			{[]int{0}, []int{1 << 42}, []int{-top}, -1 << 62},
			{[]int{0, 1}, []int{1 << 41, 1 << 41}, []int{top, -top}, 0},
		} {
			if n := Value(api.Goal{Kind: kind, Vars: x.vars, Coefs: x.coefs}, x.a); n != x.want {
				t.Error(kind, x, n)
			}
		}
	}
	for _, g := range []api.Goal{{}, {Kind: api.GoalNone, Vars: []int{}, Coefs: []int{}}, {Kind: api.GoalNone, Vars: []int{0}, Coefs: []int{1}}} {
		for _, a := range [][]int{nil, {}, {0}, {5, 6}} {
			if n := Value(g, a); n != 0 {
				t.Error(g, a, n)
			}
		}
	}
}

// P6.2: lists held against each other.
func TestAhead(t *testing.T) {
	for _, x := range []struct {
		a, b []int
		want bool
	}{
		{nil, nil, false}, {nil, []int{}, false}, {[]int{}, nil, false}, {[]int{}, []int{}, false},
		{nil, []int{0}, true}, {[]int{}, []int{-5}, true}, {[]int{0}, nil, false}, {[]int{-5}, []int{}, false},
		{[]int{0, 1}, []int{1, 0}, true}, {[]int{1, 0}, []int{0, 1}, false}, {[]int{0, 1}, []int{0, 1}, false},
		{[]int{1, 2, 3}, []int{1, 2, 4}, true}, {[]int{1, 2, 4}, []int{1, 2, 3}, false},
		{[]int{0, 9, 9}, []int{1, 9, 9}, true}, {[]int{1, 9, 9}, []int{0, 9, 9}, false},
		{[]int{1}, []int{1, -5}, true}, {[]int{1, -5}, []int{1}, false}, {[]int{1, 2}, []int{1, 2, 0}, true}, {[]int{1, 2, 0}, []int{1, 2}, false},
		{[]int{2}, []int{1, 9}, false}, {[]int{1, 9}, []int{2}, true}, {[]int{0, 0, 0}, []int{1}, true}, {[]int{1}, []int{0, 0, 0}, false},
		{[]int{-1}, []int{0}, true}, {[]int{-2}, []int{-1}, true}, {[]int{-1}, []int{-2}, false},
		{[]int{math.MinInt}, []int{math.MaxInt}, true}, {[]int{math.MaxInt}, []int{math.MinInt}, false}, {[]int{-top}, []int{top}, true},
	} {
		if Ahead(x.a, x.b) != x.want || slowAhead(x.a, x.b) != x.want {
			t.Error(x.a, x.b, !x.want)
		}
	}
}

// P6.2: all short lists, against the slow way; of two that are not the same just one is ahead.
func TestAheadOfAll(t *testing.T) {
	var l [][]int
	for n := range 4 {
		l = append(l, box(n, -1, 2)...)
	}
	for _, a := range l {
		for _, b := range l {
			if Ahead(a, b) != slowAhead(a, b) {
				t.Fatal(a, b)
			}
			if same := slices.Equal(a, b); same && Ahead(a, b) || !same && Ahead(a, b) == Ahead(b, a) {
				t.Fatal("not just one", a, b)
			}
		}
	}
}

// P6.3: small models, their solutions in order.
func TestAll(t *testing.T) {
	for s, want := range map[string][][]int{
		"":                               {{}},
		"var x 0..0\n":                   {{0}},
		"var x -7..-7\n":                 {{-7}},
		"var x 0..1 3..3\n":              {{0}, {1}, {3}},
		"var x -1..0 7..8\nvar y 2..3\n": {{-1, 2}, {-1, 3}, {0, 2}, {0, 3}, {7, 2}, {7, 3}, {8, 2}, {8, 3}},
		"var x 0..1\ntab x :\n":          nil,
		"var x 0..3\nlin 2 x = 5\n":      nil,
		"var x 0..1\nvar y 0..1\nlin 1 x 1 y = 1\n":                       {{0, 1}, {1, 0}},
		"var x 0..2\nvar y 0..2\nall x y\nlin 1 x 1 y <= 2\n":             {{0, 1}, {0, 2}, {1, 0}, {2, 0}},
		"var x 0..3\nvar y 0..1\nlin 2 x -1 y <= 5\n":                     {{0, 0}, {0, 1}, {1, 0}, {1, 1}, {2, 0}, {2, 1}, {3, 1}},
		"var b 0..1\nvar x 0..2\nreif b : 1 x = 1\n":                      {{0, 0}, {0, 2}, {1, 1}},
		"var p 0..1\nvar q 0..1\nclause p -q\n":                           {{0, 0}, {1, 0}, {1, 1}},
		"var i -1..2\nvar r 5..6\nvar s 5..5\nvar u 6..6\nelem i r s u\n": {{0, 5, 5, 6}, {1, 6, 5, 6}},
		"var x 0..1\nvar y 0..1\nlex x y : y x\n":                         {{0, 0}, {0, 1}, {1, 1}},
		"var x 0..9\nvar y 0..9\ntab y x : 3 4 ; 1 9 ; 3 2 ; 3 4\n":       {{2, 3}, {4, 3}, {9, 1}},
		"var x 0..1\nvar y 0..1\nmax 1 x\n":                               {{0, 0}, {0, 1}, {1, 0}, {1, 1}},
		"var x 0..2\nvar y 0..2\nvar z 0..2\nall x y z\n":                 {{0, 1, 2}, {0, 2, 1}, {1, 0, 2}, {1, 2, 0}, {2, 0, 1}, {2, 1, 0}},
	} {
		l, e := All(right(t, s))
		if !slices.EqualFunc(l, want, slices.Equal) || e != api.OK {
			t.Errorf("%q: %v, %v", s, l, e)
		}
	}
	l, e := All(api.Model{Vars: []api.Var{}, Cons: []api.Con{}, Goal: api.Goal{Vars: []int{}, Coefs: []int{}}})
	if len(l) != 1 || len(l[0]) != 0 || e != api.OK {
		t.Error("empty lists", l, e)
	}
}

// sized are variables whose domains have so many values.
func sized(sizes ...int) api.Model {
	m := api.Model{Vars: named(len(sizes), 0)}
	for i, n := range sizes {
		m.Vars[i].D[0].Hi = n - 1
	}
	return m
}

// P6.3: how many values there may be: the domains' sizes, multiplied.
func TestAllBig(t *testing.T) {
	for _, x := range []struct {
		sizes []int
		big   bool
	}{
		{[]int{256, 256}, false}, {[]int{16, 4096}, false}, {[]int{4096, 16}, false}, {[]int{1, 4096, 1, 16, 1}, false}, {slices.Repeat([]int{2}, 16), false}, {slices.Repeat([]int{1}, 64), false}, {[]int{255, 257}, false},
		{[]int{18, 3641}, true}, {[]int{3641, 18}, true}, {[]int{3641, 1, 1, 18, 1}, true}, {[]int{256, 257}, true}, {[]int{257, 256}, true}, {[]int{4096, 17}, true}, {slices.Repeat([]int{2}, 17), true}, {[]int{4096, 4096}, true},
		{slices.Repeat([]int{2}, 64), true}, {slices.Repeat([]int{4}, 32), true}, {slices.Repeat([]int{4096}, 64), true}, {slices.Repeat([]int{3}, 64), true}, {slices.Repeat([]int{2}, 63), true}, {append(slices.Repeat([]int{4096}, 5), 16), true},
	} {
		m := sized(x.sizes...)
		if e := model.Check(m); e != api.OK {
			t.Fatal(x.sizes, e)
		}
		l, e := All(m)
		if x.big {
			if e != api.ErrBig || len(l) != 0 {
				t.Error(x.sizes, e, len(l))
			}
			continue
		}
		n := 1
		for _, size := range x.sizes {
			n *= size
		}
		if e != api.OK || len(l) != n || !slices.IsSortedFunc(l, slices.Compare) {
			t.Error(x.sizes, e, len(l))
		}
	}
	m := sized(18, 3641)
	m.Cons = []api.Con{{Kind: api.ConTab, Vars: []int{0}}}
	if l, e := All(m); e != api.ErrBig || len(l) != 0 {
		t.Error("too many, whatever holds", e, len(l))
	}
	m = sized(256, 256)
	m.Vars[0].D = []api.Range{{Lo: -300, Hi: -200}, {Lo: 0, Hi: 99}, {Lo: 1000, Hi: 1054}}
	m.Cons = []api.Con{lin(api.Eq, 1300, 1, 1)}
	if l, e := All(m); e != api.OK || len(l) != 10 || !slices.Equal(l[0], []int{1045, 255}) || !slices.Equal(l[9], []int{1054, 246}) {
		t.Error(e, len(l))
	}
}

// P6.3: each error of model.Check, ahead of there being too many values; nothing is told with it.
func TestAllErrors(t *testing.T) {
	wide := "var x 0..4095\nvar y 0..4095\n"
	var many, often strings.Builder
	for i := range 65 {
		many.WriteString("var a" + strconv.Itoa(i) + " 0..0\n")
	}
	for range 257 {
		often.WriteString("all x\n")
	}
	for s, want := range map[string]api.Errno{
		many.String():                           api.ErrBig,
		"var x 0..0\n" + often.String():         api.ErrBig,
		"var x\n":                               api.ErrModelDom,
		"var x 0..4096\n":                       api.ErrModelDom,
		"var x 0..1048577\n":                    api.ErrModelDom,
		"var x 1..0\n":                          api.ErrModelDom,
		"var x 0..1 2..3\n":                     api.ErrModelDom,
		"var x 0..1\nlin 0 x <= 5\n":            api.ErrModelForm,
		"var x 0..3\nclause x\n":                api.ErrModelForm,
		"var x 0..1\nall x x\n":                 api.ErrModelForm,
		"var x 0..1\nlin 4398046511105 x = 0\n": api.ErrModelBig,
		"var x 0..1\nmax 4398046511105 x\n":     api.ErrModelBig,
		"var x 0..1\nmin 0 x\n":                 api.ErrModelForm,
		wide + "var z\n":                        api.ErrModelDom,
		wide + "lin 1 x 1 x <= 3\n":             api.ErrModelForm,
		wide + "min 4398046511105 y\n":          api.ErrModelBig,
		wide:                                    api.ErrBig,
	} {
		m := read(t, s)
		if l, e := All(m); e != want || len(l) != 0 {
			t.Errorf("%.40q: %v %v, want %v", s, l, e, want)
		}
	}
	tiny, broad := named(2, 1), named(2, 4095)
	for _, vars := range [][]api.Var{tiny, broad} {
		for name, x := range map[string]struct {
			m    api.Model
			want api.Errno
		}{
			"a name that is none": {api.Model{Vars: append(vars[:2:2], api.Var{Name: "X", D: vars[0].D})}, api.ErrModelName},
			"a name twice":        {api.Model{Vars: append(vars[:2:2], vars[0])}, api.ErrModelTwice},
			"an unknown one":      {api.Model{Vars: vars, Cons: []api.Con{{Kind: api.ConAll, Vars: []int{2}}}}, api.ErrModelVar},
			"one below 0":         {api.Model{Vars: vars, Cons: []api.Con{{Kind: api.ConAll, Vars: []int{-1}}}}, api.ErrModelVar},
			"a goal's":            {api.Model{Vars: vars, Goal: api.Goal{Kind: api.GoalMin, Vars: []int{2}, Coefs: []int{1}}}, api.ErrModelVar},
			"a kind that is none": {api.Model{Vars: vars, Cons: []api.Con{{Kind: api.ConKinds, Vars: []int{0}}}}, api.ErrModelForm},
			"a goal that is none": {api.Model{Vars: vars, Goal: api.Goal{Kind: 3}}, api.ErrModelForm},
			"a big sum":           {api.Model{Vars: vars, Cons: []api.Con{lin(api.Le, 1, 1<<42)}}, api.ErrModelBig},
			"no variables at all": {api.Model{Cons: []api.Con{lin(api.Le, 0)}}, api.ErrModelForm},
		} {
			if l, e := All(x.m); e != x.want || len(l) != 0 || model.Check(x.m) != x.want {
				t.Error(name, l, e)
			}
		}
	}
}

// P6.4: models that look like chance: each solution once, in order, and nothing else, held against going over all values; with a constraint less no fewer.
func TestAllOfMany(t *testing.T) {
	r := dice(64)
	tries := box(6, -1, 2)
	none, some := 0, 0
	for range 150 {
		m := api.Model{Vars: places(&r)}
		for range r.next(5) {
			m.Cons = append(m.Cons, rightCon(&r))
		}
		l, e := All(m)
		if e != api.OK {
			t.Fatal(m, e)
		}
		var want [][]int
		for _, a := range tries {
			solves := slowSolves(m, a)
			if Solves(m, a) != solves {
				t.Fatal(m, a, !solves)
			}
			if solves {
				want = append(want, a)
			}
		}
		if !slices.EqualFunc(l, want, slices.Equal) {
			t.Fatal(m, l, want)
		}
		for i := range len(l) - 1 {
			if !Ahead(l[i], l[i+1]) {
				t.Fatal("not in order, or twice", l[i], l[i+1])
			}
		}
		checkLess(t, m, l)
		if len(l) == 0 {
			none++
		} else if len(m.Cons) > 1 {
			some++
		}
	}
	if none < 10 || some < 30 {
		t.Error("seldom met", none, some)
	}
}

// checkLess tells whether a model keeps its solutions when one of its constraints goes.
func checkLess(t *testing.T, m api.Model, l [][]int) {
	t.Helper()
	for i := range m.Cons {
		less := m
		less.Cons = slices.Delete(slices.Clone(m.Cons), i, i+1)
		more, e := All(less)
		if e != api.OK || len(more) < len(l) {
			t.Fatal("fewer", m, i, e)
		}
		for _, a := range l {
			if _, found := slices.BinarySearchFunc(more, a, slices.Compare); !found {
				t.Fatal("lost", m, i, a)
			}
		}
	}
}

// R5: the same is told each time.
func TestAgainTheSame(t *testing.T) {
	r := dice(65)
	for range 50 {
		m := api.Model{Vars: places(&r), Cons: []api.Con{rightCon(&r), rightCon(&r)}}
		a, _ := All(m)
		b, _ := All(m)
		if !slices.EqualFunc(a, b, slices.Equal) {
			t.Fatal(m)
		}
	}
}

// whole is a model with all kinds of constraints.
func whole() api.Model {
	vars := named(6, 1)
	vars[0].D = []api.Range{{Lo: 0, Hi: 1}, {Lo: 3, Hi: 4}}
	return api.Model{
		Vars: vars,
		Cons: []api.Con{
			{Kind: api.ConLin, Vars: []int{0, 1}, Coefs: []int{1, 1}, Rhs: 4},
			{Kind: api.ConAll, Vars: []int{2, 1}},
			{Kind: api.ConTab, Vars: []int{0, 1}, Rows: [][]int{{0, 0}, {0, 1}, {1, 0}, {4, 0}, {3, 1}}},
			{Kind: api.ConElem, Vars: []int{1, 2, 3, 4}},
			{Kind: api.ConReif, Vars: []int{1, 0}, Coefs: []int{1, -1}, Op: api.Eq, B: 5},
			{Kind: api.ConClause, Vars: []int{5, 3}, Coefs: []int{-1, 1}},
			{Kind: api.ConLex, Vars: []int{1, 2, 0, 4}},
		},
		Goal: api.Goal{Kind: api.GoalMax, Vars: []int{0}, Coefs: []int{1}},
	}
}

// spare is how much room stands behind each list of a roomy model.
const spare = 3

// roomy puts a list into memory with room behind it, in which something stands.
func roomy[T any](l []T, mark T) []T {
	return append(append(make([]T, 0, len(l)+spare), l...), slices.Repeat([]T{mark}, spare)...)[:len(l)]
}

// roomyModel is a model all of whose lists have room behind them.
func roomyModel(m api.Model) api.Model {
	vars, cons := []api.Var{}, []api.Con{}
	for _, v := range m.Vars {
		vars = append(vars, api.Var{Name: v.Name, D: roomy(v.D, api.Range{Lo: 77, Hi: 77})})
	}
	for _, c := range m.Cons {
		rows := [][]int{}
		for _, r := range c.Rows {
			rows = append(rows, roomy(r, 77))
		}
		c.Vars, c.Coefs, c.Rows = roomy(c.Vars, 77), roomy(c.Coefs, 77), roomy(rows, []int{77})
		cons = append(cons, c)
	}
	return api.Model{
		Vars: roomy(vars, api.Var{Name: "spare", D: []api.Range{{Lo: 7, Hi: 7}}}),
		Cons: roomy(cons, api.Con{Kind: 77, Vars: []int{77}}),
		Goal: api.Goal{Kind: m.Goal.Kind, Vars: roomy(m.Goal.Vars, 77), Coefs: roomy(m.Goal.Coefs, 77)},
	}
}

// laidOpen is a model with the room behind its lists as a part of them.
func laidOpen(m api.Model) api.Model {
	open := api.Model{Goal: api.Goal{Kind: m.Goal.Kind, Vars: to(m.Goal.Vars), Coefs: to(m.Goal.Coefs)}}
	for _, v := range to(m.Vars) {
		open.Vars = append(open.Vars, api.Var{Name: v.Name, D: to(v.D)})
	}
	for _, c := range to(m.Cons) {
		rows := [][]int{}
		for _, r := range to(c.Rows) {
			rows = append(rows, to(r))
		}
		c.Vars, c.Coefs, c.Rows = to(c.Vars), to(c.Coefs), rows
		open.Cons = append(open.Cons, c)
	}
	return open
}

// to is a list up to the end of its room.
func to[T any](l []T) []T { return l[:cap(l)] }

// wipe writes over a list, and over the room behind it.
func wipe[T any](l []T, with T) {
	for i := range to(l) {
		to(l)[i] = with
	}
}

// wipeModel writes over all lists of a model, the inner ones first.
func wipeModel(m api.Model) {
	for _, v := range m.Vars {
		wipe(v.D, api.Range{Lo: -9, Hi: -9})
	}
	for _, c := range m.Cons {
		wipe(c.Vars, -9)
		wipe(c.Coefs, -9)
		for _, r := range c.Rows {
			wipe(r, -9)
		}
		wipe(c.Rows, nil)
	}
	wipe(m.Vars, api.Var{})
	wipe(m.Cons, api.Con{Kind: -9})
	wipe(m.Goal.Vars, -9)
	wipe(m.Goal.Coefs, -9)
}

// R4: no call changes what it is handed, nor the room behind it.
func TestHandedInStays(t *testing.T) {
	models := []api.Model{whole(), {}, sized(4096, 17), {Vars: named(1, 1), Cons: []api.Con{{Kind: 9, Vars: []int{0}}}}}
	r := dice(66)
	for range 50 {
		models = append(models, api.Model{Vars: places(&r), Cons: []api.Con{rightCon(&r), rightCon(&r), rightCon(&r)}})
	}
	for _, plain := range models {
		m, was := roomyModel(plain), laidOpen(roomyModel(plain))
		if _, e := All(m); e != api.OK {
			if !reflect.DeepEqual(laidOpen(m), was) {
				t.Fatal("an error changed", m)
			}
			continue
		}
		for _, a := range [][]int{{2, 1, 2, 1, 0, 1}, {1, 0, 1, 0, 1, 0}, {3}, {}} {
			b, c := roomy(a, 77), roomy(a, 77)
			for _, x := range m.Cons {
				Holds(x, b)
			}
			Solves(m, b)
			Value(m.Goal, b)
			Ahead(b, c)
			room := append(slices.Clone(a), 77, 77, 77)
			if !slices.Equal(to(b), room) || !slices.Equal(to(c), room) {
				t.Fatal("values were changed", b, c)
			}
		}
		if !reflect.DeepEqual(laidOpen(m), was) {
			t.Fatal("changed", m)
		}
	}
}

// R4: what is told is its owner's: nothing of it is the argument's, and no two lists of it share memory.
func TestToldIsNew(t *testing.T) {
	m := roomyModel(whole())
	was := laidOpen(roomyModel(whole()))
	want, e := All(whole())
	if e != api.OK || len(want) < 3 {
		t.Fatal("too few to tell", want, e)
	}
	for i := range want {
		l, _ := All(m)
		wipe(l[i], -9)
		for j := range want {
			if j != i && !slices.Equal(l[j], want[j]) {
				t.Fatal("lists share memory", i, j)
			}
		}
		wipe(l, nil)
	}
	if !reflect.DeepEqual(laidOpen(m), was) {
		t.Fatal("an answer shares memory with its argument", m)
	}
	l, _ := All(m)
	wipeModel(m)
	if !slices.EqualFunc(l, want, slices.Equal) {
		t.Fatal("an argument is kept in an answer", l)
	}
	again, _ := All(whole())
	if !slices.EqualFunc(again, want, slices.Equal) {
		t.Fatal("something is kept", again)
	}
	empty, _ := All(api.Model{})
	wipe(to(empty[0]), -9)
	if next, _ := All(api.Model{}); len(next) != 1 || len(next[0]) != 0 {
		t.Fatal("the empty list is kept", next)
	}
}

// R1: as much as one call may be handed ends soon.
func TestMuch(t *testing.T) {
	const n = 1 << 20
	vars := slices.Repeat([]int{0, 1}, n/2)
	c := api.Con{Kind: api.ConLex, Vars: vars}
	if !Holds(c, []int{1, 2}) || !Holds(c, nil) {
		t.Error("the same")
	}
	vars[n/2-1] = 2
	if Holds(c, []int{1, 2, 3}) || !Holds(c, []int{1, 2}) {
		t.Error("others at the last place")
	}
	m := api.Model{Vars: named(16, 1)}
	for i := range api.MaxCons {
		m.Cons = append(m.Cons, api.Con{Kind: api.ConClause, Vars: []int{i % 16, (i + 1 + i/16%15) % 16}, Coefs: []int{1, -1}})
	}
	if l, e := All(m); e != api.OK || len(l) != 2 {
		t.Error(len(l), e)
	}
	long := slices.Repeat([]int{1}, n)
	if !Ahead(long[:n-1], long) || Ahead(long, long) || Ahead(long, long[:n-1]) {
		t.Error("long lists")
	}
}

// Ways: whoever goes over values may stop at any of them.
func TestTriesStop(t *testing.T) {
	m := sized(2, 3)
	for stop := range 6 {
		n := 0
		for a := range tries(m) {
			if !slices.Equal(a, []int{n / 3, n % 3}) {
				t.Error(stop, n, a)
			}
			if n == stop {
				break
			}
			n++
		}
		if n != stop {
			t.Error("went on", stop, n)
		}
	}
}

// The chapter's examples.
func TestExamples(t *testing.T) {
	l, e := All(right(t, "var x 0..1\nvar y 0..1\nlin 1 x 1 y = 1\n"))
	if !slices.EqualFunc(l, [][]int{{0, 1}, {1, 0}}, slices.Equal) || e != api.OK || !Ahead(l[0], l[1]) {
		t.Error(l, e)
	}
}
