package logic

import (
	"slices"
	"testing"

	"secateur/api"
	"secateur/dom"
	"secateur/linear"
	"secateur/meaning"
	"secateur/model"
)

const (
	top  = 1 << 20 // the greatest value
	most = 1 << 62 // the greatest number that a sum comes to
)

// of is the domain of some values.
func of(l ...int) []api.Range {
	d, e := dom.Of(l)
	if e != api.OK {
		panic(e)
	}
	return d
}

func to(lo, hi int) []api.Range { return []api.Range{{Lo: lo, Hi: hi}} }

// doms are lists of domains, written shorter.
func doms(l ...[]api.Range) [][]api.Range { return l }

// upTo are the numbers from 0 on, ahead of n.
func upTo(n int) []int {
	l := make([]int, n)
	for i := range l {
		l[i] = i
	}
	return l
}

// evens are n values, each 2 above the one ahead.
func evens(lo, n int) []api.Range {
	var l []int
	for i := range n {
		l = append(l, lo+2*i)
	}
	return of(l...)
}

// clause is one over the variables from 0 on: that one of some is 1, where its number is 1, or 0, where it is -1.
func clause(coefs ...int) api.Con {
	return api.Con{Kind: api.ConClause, Vars: upTo(len(coefs)), Coefs: coefs}
}

// tells is the constraint that the variable b tells whether a sum over those from 0 on is so.
func tells(b, op, rhs int, coefs ...int) api.Con {
	return api.Con{Kind: api.ConReif, Vars: upTo(len(coefs)), Coefs: coefs, Op: op, Rhs: rhs, B: b}
}

// over is a constraint over other variables than those from 0 on.
func over(c api.Con, vars ...int) api.Con {
	c.Vars = vars
	return c
}

// prune is the pruner of a constraint's kind.
func prune(d [][]api.Range, c api.Con) ([][]api.Range, bool) {
	if c.Kind == api.ConReif {
		return Reif(d, c)
	}
	return Clause(d, c)
}

func sameDoms(a, b [][]api.Range) bool { return slices.EqualFunc(a, b, dom.Same) }

// copyDoms are the same domains in other memory.
func copyDoms(d [][]api.Range) [][]api.Range {
	var l [][]api.Range
	for _, x := range d {
		l = append(l, slices.Clone(x))
	}
	return l
}

// copyCon is the same constraint in other memory.
func copyCon(c api.Con) api.Con {
	c.Vars, c.Coefs = slices.Clone(c.Vars), slices.Clone(c.Coefs)
	return c
}

// within tells whether domains have no value that others have not.
func within(a, b [][]api.Range) bool {
	for i, x := range a {
		if len(dom.Minus(x, b[i])) > 0 {
			return false
		}
	}
	return true
}

// dice are numbers that look like chance, and are the same ones each time.
type dice uint64

func (r *dice) next(n int) int {
	*r = *r*6364136223846793005 + 1442695040888963407
	return int(uint64(*r)>>33) % n
}

func (r *dice) of(l ...int) int { return l[r.next(len(l))] }

// domain are up to n values from lo to hi, at least one.
func (r *dice) domain(n, lo, hi int) []api.Range {
	var l []int
	for range 1 + r.next(n) {
		l = append(l, lo+r.next(hi-lo+1))
	}
	return of(l...)
}

// vars are n of so many variables, all others, in whatever order.
func (r *dice) vars(n, variables int) []int {
	var l []int
	for len(l) < n {
		if v := r.next(variables); !slices.Contains(l, v) {
			l = append(l, v)
		}
	}
	return l
}

// reifCase are some domains with small values, and a constraint over some of them, of which the last of vars tells.
func (r *dice) reifCase() ([][]api.Range, api.Con) {
	variables := 2 + r.next(5)
	var d [][]api.Range
	for range variables {
		d = append(d, r.domain(1+r.next(4), -3, 4))
	}
	vars := r.vars(2+r.next(variables-1), variables)
	last := len(vars) - 1
	c := over(tells(vars[last], r.next(api.Ops), r.next(13)-6), vars[:last]...)
	for range c.Vars {
		c.Coefs = append(c.Coefs, r.of(-3, -2, -1, 1, 2, 3))
	}
	d[c.B] = r.domain(2, 0, 1)
	return d, c
}

// solutions goes over all values of a constraint's variables with which it holds; the list is one, and changes.
func solutions(d [][]api.Range, c api.Con) func(func([]int) bool) {
	a := make([]int, len(d))
	uses := model.Uses(c)
	var from func(i int, yield func([]int) bool) bool
	from = func(i int, yield func([]int) bool) bool {
		if i == len(uses) {
			return !meaning.Holds(c, a) || yield(a)
		}
		for _, value := range dom.Values(d[uses[i]]) {
			a[uses[i]] = value
			if !from(i+1, yield) {
				return false
			}
		}
		return true
	}
	return func(yield func([]int) bool) { from(0, yield) }
}

func anyEmpty(d [][]api.Range) bool {
	return slices.ContainsFunc(d, func(x []api.Range) bool { return len(x) == 0 })
}

// slowClause prunes by the words of P11.1, going over all values.
func slowClause(d [][]api.Range, c api.Con) ([][]api.Range, bool) {
	if anyEmpty(d) {
		return nil, false
	}
	supported := make([][]int, len(d))
	for a := range solutions(d, c) {
		for _, v := range c.Vars {
			supported[v] = append(supported[v], a[v])
		}
	}
	l := copyDoms(d)
	for _, v := range c.Vars {
		if len(supported[v]) == 0 {
			return nil, false
		}
		l[v] = of(supported[v]...)
	}
	return l, true
}

// slowEnds are a sum's ends by the words of chapter 7.
func slowEnds(d [][]api.Range, c api.Con) (int, int) {
	lower, higher := 0, 0
	for i, v := range c.Vars {
		k, values := c.Coefs[i], dom.Values(d[v])
		a, b := k*slices.Min(values), k*slices.Max(values)
		lower, higher = lower+min(a, b), higher+max(a, b)
	}
	return lower, higher
}

// slowKnown tells of a sum by the words of P7.3.
func slowKnown(d [][]api.Range, c api.Con) (bool, bool) {
	lower, higher := slowEnds(d, c)
	both, outside := lower == c.Rhs && higher == c.Rhs, c.Rhs < lower || c.Rhs > higher
	switch c.Op {
	case api.Le:
		return higher <= c.Rhs, higher <= c.Rhs || lower > c.Rhs
	case api.Eq:
		return both, both || outside
	}
	return outside, both || outside
}

// slowReif prunes by the words of P11.2.
func slowReif(d [][]api.Range, c api.Con) ([][]api.Range, bool) {
	if anyEmpty(d) {
		return nil, false
	}
	sum := api.Con{Kind: api.ConLin, Vars: c.Vars, Coefs: c.Coefs, Op: c.Op, Rhs: c.Rhs}
	if so, known := slowKnown(d, sum); known {
		value := 0
		if so {
			value = 1
		}
		l := copyDoms(d)
		l[c.B] = dom.Cut(l[c.B], value, value)
		return l, len(l[c.B]) > 0
	}
	switch {
	case dom.Size(d[c.B]) > 1:
		return copyDoms(d), true
	case dom.Has(d[c.B], 1):
		return linear.Prune(d, sum)
	}
	return linear.Prune(d, linear.Not(sum))
}

// slow is the slow way of a constraint's kind; with no it tells none.
func slow(d [][]api.Range, c api.Con) ([][]api.Range, bool) {
	way := slowClause
	if c.Kind == api.ConReif {
		way = slowReif
	}
	l, ok := way(d, c)
	if !ok {
		return nil, false
	}
	return l, true
}

// prunedCase are domains, a constraint, and what is left of the domains; nil: none and no.
type prunedCase struct {
	d    [][]api.Range
	c    api.Con
	want [][]api.Range
}

// check holds a case against the pruner.
func (x prunedCase) check(t *testing.T, name string) {
	t.Helper()
	if e := model.Con(x.d, x.c); e != api.OK {
		t.Fatalf("%s: no constraint: %d", name, e)
	}
	l, ok := prune(x.d, x.c)
	if ok != (x.want != nil) || !sameDoms(l, x.want) || !ok && l != nil {
		t.Errorf("%s: prune(%v, %v): %v %v, want %v", name, x.d, x.c, l, ok, x.want)
	}
}

// checkCases holds cases against the pruner, and against the slow way.
func checkCases(t *testing.T, cases map[string]prunedCase) {
	t.Helper()
	for name, x := range cases {
		x.check(t, name)
		if l, ok := slow(x.d, x.c); ok != (x.want != nil) || !sameDoms(l, x.want) {
			t.Errorf("%s: the slow way says %v %v", name, l, ok)
		}
	}
}

// checkSlow holds the pruner against the slow way.
func checkSlow(t *testing.T, d [][]api.Range, c api.Con) {
	t.Helper()
	l, ok := prune(d, c)
	if want, is := slow(d, c); ok != is || !sameDoms(l, want) || !ok && l != nil {
		t.Fatalf("prune(%v, %v): %v %v, want %v %v", d, c, l, ok, want, is)
	}
}

// The chapter's examples.
func TestExamples(t *testing.T) {
	both, no, yes := to(0, 1), of(0), of(1)
	checkCases(t, map[string]prunedCase{
		"clause a b":                {doms(both, no), clause(1, 1), doms(yes, no)},
		"2 x at most 4, x 0 to 2":   {doms(to(0, 2), both), tells(1, api.Le, 4, 2), doms(to(0, 2), yes)},
		"2 x at most 4, and it is":  {doms(to(0, 5), yes), tells(1, api.Le, 4, 2), doms(to(0, 2), yes)},
		"2 x at most 4, and it not": {doms(to(0, 5), no), tells(1, api.Le, 4, 2), doms(to(3, 5), no)},
	})
}

// P11.1: clauses of one variable, which has to be so.
func TestClauseOne(t *testing.T) {
	both, no, yes := to(0, 1), of(0), of(1)
	checkCases(t, map[string]prunedCase{
		"may be 1":      {doms(both), clause(1), doms(yes)},
		"is 1":          {doms(yes), clause(1), doms(yes)},
		"can't be 1":    {doms(no), clause(1), nil},
		"may be 0":      {doms(both), clause(-1), doms(no)},
		"is 0":          {doms(no), clause(-1), doms(no)},
		"can't be 0":    {doms(yes), clause(-1), nil},
		"another one 1": {doms(both, both), over(clause(1), 1), doms(both, yes)},
		"another one 0": {doms(both, both), over(clause(-1), 1), doms(both, no)},
	})
}

// P11.1: clauses of several variables: two that may be so, one that is known to be, one alone that may be, none that may.
func TestClauseSome(t *testing.T) {
	both, no, yes := to(0, 1), of(0), of(1)
	checkCases(t, map[string]prunedCase{
		"both may be, 1":                 {doms(both, both), clause(1, 1), doms(both, both)},
		"both may be, 0":                 {doms(both, both), clause(-1, -1), doms(both, both)},
		"both may be, one each":          {doms(both, both), clause(1, -1), doms(both, both)},
		"all of many may be":             {doms(both, both, both, both), clause(1, -1, -1, 1), doms(both, both, both, both)},
		"two of many may be":             {doms(no, both, yes, both), clause(1, 1, -1, -1), doms(no, both, yes, both)},
		"two that stand behind":          {doms(yes, no, both, both), clause(-1, 1, -1, 1), doms(yes, no, both, both)},
		"two that stand ahead":           {doms(both, both, yes, no), clause(-1, 1, -1, 1), doms(both, both, yes, no)},
		"the first is 1":                 {doms(yes, both), clause(1, 1), doms(yes, both)},
		"the last is 1":                  {doms(both, yes), clause(1, 1), doms(both, yes)},
		"the first is 0":                 {doms(no, both), clause(-1, -1), doms(no, both)},
		"the last is 0":                  {doms(both, no), clause(-1, -1), doms(both, no)},
		"one is, all others can't be":    {doms(no, yes, yes, no), clause(1, 1, -1, 1), doms(no, yes, yes, no)},
		"one is, some may be":            {doms(both, yes, both, no), clause(1, 1, -1, 1), doms(both, yes, both, no)},
		"all are":                        {doms(yes, no, yes), clause(1, -1, 1), doms(yes, no, yes)},
		"the first alone may be 1":       {doms(both, no, yes), clause(1, 1, -1), doms(yes, no, yes)},
		"the middle one alone may be 1":  {doms(no, both, yes), clause(1, 1, -1), doms(no, yes, yes)},
		"the last alone may be 1":        {doms(no, yes, both), clause(1, -1, 1), doms(no, yes, yes)},
		"the first alone may be 0":       {doms(both, no, yes), clause(-1, 1, -1), doms(no, no, yes)},
		"the middle one alone may be 0":  {doms(no, both, yes), clause(1, -1, -1), doms(no, no, yes)},
		"the last alone may be 0":        {doms(no, yes, both), clause(1, -1, -1), doms(no, yes, no)},
		"none may be, 1":                 {doms(no, no), clause(1, 1), nil},
		"none may be, 0":                 {doms(yes, yes), clause(-1, -1), nil},
		"none may be, one each":          {doms(no, yes), clause(1, -1), nil},
		"none of many may be":            {doms(no, yes, yes, no), clause(1, -1, -1, 1), nil},
		"the other number would let one": {doms(no, yes), clause(-1, 1), doms(no, yes)},
	})
}

// P11.1: the variables stand in whatever order; those of d that are not the clause's stay as they are, whatever values they have.
func TestClauseOthersStay(t *testing.T) {
	both, no, yes, wide := to(0, 1), of(0), of(1), of(-7, 0, 1, 5)
	checkCases(t, map[string]prunedCase{
		"turned":                {doms(both, no, yes), over(clause(-1, 1, 1), 2, 1, 0), doms(yes, no, yes)},
		"mixed":                 {doms(no, both, yes), over(clause(-1, 1, -1), 2, 0, 1), doms(no, no, yes)},
		"ahead":                 {doms(wide, both, no), over(clause(1, 1), 1, 2), doms(wide, yes, no)},
		"behind":                {doms(both, no, wide), clause(1, 1), doms(yes, no, wide)},
		"between":               {doms(both, wide, no), over(clause(1, 1), 0, 2), doms(yes, wide, no)},
		"may be so, but not of": {doms(both, no, both), clause(1, 1), doms(yes, no, both)},
		"is so, but not of":     {doms(both, no, yes), clause(1, 1), doms(yes, no, yes)},
		"no, whatever they are": {doms(yes, no, both, no, wide), over(clause(1, 1), 1, 3), nil},
		"far apart":             {doms(wide, both, wide, yes, wide), over(clause(-1, -1), 3, 1), doms(wide, no, wide, yes, wide)},
	})
}

// P11.1: a domain that is empty, the clause's or not, or that would become so: none and no.
func TestClauseEmpty(t *testing.T) {
	both, no, yes := to(0, 1), of(0), of(1)
	for _, empty := range [][]api.Range{nil, {}} {
		checkCases(t, map[string]prunedCase{
			"its one":                  {doms(empty), clause(1), nil},
			"its first":                {doms(empty, both), clause(1, 1), nil},
			"its last":                 {doms(both, empty), clause(1, -1), nil},
			"its own, and another is":  {doms(yes, empty), clause(1, 1), nil},
			"its own, and another may": {doms(both, empty, both), clause(1, 1, 1), nil},
			"all":                      {doms(empty, empty), clause(1, 1), nil},
			"not its, ahead":           {doms(empty, both), over(clause(1), 1), nil},
			"not its, behind":          {doms(both, empty), clause(1), nil},
			"not its, between":         {doms(both, empty, both), over(clause(1, 1), 0, 2), nil},
			"not its, and one is":      {doms(yes, both, empty), clause(1, 1), nil},
			"not its, and none may be": {doms(no, no, empty), clause(1, 1), nil},
		})
	}
	checkCases(t, map[string]prunedCase{
		"its one would become":   {doms(no), clause(1), nil},
		"one of some would, 1":   {doms(no, both, no), over(clause(1, 1), 0, 2), nil},
		"one of some would, 0":   {doms(yes, both, yes), over(clause(-1, -1), 0, 2), nil},
		"one of some would, two": {doms(yes, both, no), over(clause(-1, 1), 0, 2), nil},
	})
}

// P11.1: by Vars and Coefs alone.
func TestClauseByVarsAndCoefsAlone(t *testing.T) {
	d := doms(of(0), to(0, 1), of(1))
	for kind := range api.ConKinds {
		c := api.Con{Kind: kind, Vars: []int{0, 1}, Coefs: []int{1, -1}, Op: api.Ne, Rhs: 9, Rows: [][]int{{0, 1}}, B: 2}
		if l, ok := Clause(d, c); !ok || !sameDoms(l, doms(of(0), of(0), of(1))) {
			t.Error(kind, l, ok)
		}
	}
}

// P11.1: as many variables as there may be.
func TestClauseLarge(t *testing.T) {
	both, no, yes := to(0, 1), of(0), of(1)
	coefs := slices.Repeat([]int{1, -1}, api.MaxVars/2)
	never := slices.Repeat(doms(no, yes), api.MaxVars/2)
	all := slices.Repeat(doms(both), api.MaxVars)
	prunedCase{all, clause(coefs...), all}.check(t, "all may be")
	prunedCase{never, clause(coefs...), nil}.check(t, "none may be")
	for v := range api.MaxVars {
		d, want := slices.Clone(never), slices.Clone(never)
		d[v], want[v] = both, doms(yes, no)[v%2]
		prunedCase{d, clause(coefs...), want}.check(t, "one may be")
		prunedCase{want, clause(coefs...), want}.check(t, "one is")
		other := (v + 9) % api.MaxVars
		d[other] = both
		prunedCase{d, clause(coefs...), d}.check(t, "two may be")
	}
}

// tuples goes over all lists of n of some things; the list is one, and changes.
func tuples[T any](l []T, n int) func(func([]T) bool) {
	d := make([]T, n)
	var from func(i int, yield func([]T) bool) bool
	from = func(i int, yield func([]T) bool) bool {
		if i == n {
			return yield(d)
		}
		for _, x := range l {
			d[i] = x
			if !from(i+1, yield) {
				return false
			}
		}
		return true
	}
	return func(yield func([]T) bool) { from(0, yield) }
}

// P11.1: all domains of truths, the empty one too, of up to four variables of the clause's, with all numbers, and of one that is not.
func TestClauseAgainstAllValues(t *testing.T) {
	for n := 1; n <= 4; n++ {
		for coefs := range tuples([]int{1, -1}, n) {
			for d := range tuples(doms(nil, of(0), of(1), to(0, 1)), n+1) {
				checkSlow(t, d, clause(coefs...))
				checkSlow(t, d, over(clause(coefs...), upTo(n + 1)[1:]...))
			}
		}
	}
}

// clauseCase are some domains, and a clause over some of them.
func (r *dice) clauseCase() ([][]api.Range, api.Con) {
	variables := 1 + r.next(9)
	var d [][]api.Range
	for range variables {
		d = append(d, r.domain(4, -2, 3))
	}
	c := over(clause(), r.vars(1+r.next(variables), variables)...)
	for _, v := range c.Vars {
		d[v] = r.domain(2, 0, 1)
		c.Coefs = append(c.Coefs, r.of(1, -1))
	}
	return d, c
}

// P11.1: some of up to nine variables, in whatever order.
func TestClauseAgainstSomeValues(t *testing.T) {
	r := dice(11)
	for range 5000 {
		d, c := r.clauseCase()
		checkSlow(t, d, c)
	}
}

// P11.2: the sum is known, and so: the variable that tells keeps 1 alone; and it is known, and not so: 0 alone. All else stays.
func TestReifKnown(t *testing.T) {
	both, no, yes := to(0, 1), of(0), of(1)
	two, five := to(0, 2), of(-5, 2, 9)
	checkCases(t, map[string]prunedCase{
		"at most, right at it":         {doms(two, both), tells(1, api.Le, 4, 2), doms(two, yes)},
		"at most, below it":            {doms(two, both), tells(1, api.Le, 9, 2), doms(two, yes)},
		"at most, not, right above":    {doms(to(3, 9), both), tells(1, api.Le, 5, 2), doms(to(3, 9), no)},
		"at most, not, far above":      {doms(to(3, 9), both), tells(1, api.Le, -8, 2), doms(to(3, 9), no)},
		"at most, a number below 0":    {doms(five, both), tells(1, api.Le, 15, -3), doms(five, yes)},
		"at most, not, so likewise":    {doms(five, both), tells(1, api.Le, -28, -3), doms(five, no)},
		"at most, of two":              {doms(two, five, both), tells(2, api.Le, 22, 2, 2), doms(two, five, yes)},
		"at most, not, of two":         {doms(two, five, both), tells(2, api.Le, -11, 2, 2), doms(two, five, no)},
		"at most, both ends":           {doms(two, five, both), tells(2, api.Le, 9, 2, -1), doms(two, five, yes)},
		"at most, not, both ends":      {doms(two, five, both), tells(2, api.Le, -10, 2, -1), doms(two, five, no)},
		"is it":                        {doms(of(-3), both), tells(1, api.Eq, 6, -2), doms(of(-3), yes)},
		"is it, of two":                {doms(of(-3), of(4), both), tells(2, api.Eq, 1, 1, 1), doms(of(-3), of(4), yes)},
		"is it not, one value":         {doms(of(-3), both), tells(1, api.Eq, -6, -2), doms(of(-3), no)},
		"is it not, right above":       {doms(five, both), tells(1, api.Eq, 10, 1), doms(five, no)},
		"is it not, right below":       {doms(five, both), tells(1, api.Eq, -6, 1), doms(five, no)},
		"is it not, of two":            {doms(two, five, both), tells(2, api.Eq, 14, 2, 1), doms(two, five, no)},
		"is another, one value":        {doms(of(-3), both), tells(1, api.Ne, -6, -2), doms(of(-3), yes)},
		"is another, right above":      {doms(five, both), tells(1, api.Ne, 10, 1), doms(five, yes)},
		"is another, right below":      {doms(five, both), tells(1, api.Ne, -6, 1), doms(five, yes)},
		"is no other":                  {doms(of(-3), both), tells(1, api.Ne, 6, -2), doms(of(-3), no)},
		"is no other, of two":          {doms(of(-3), of(4), both), tells(2, api.Ne, 1, 1, 1), doms(of(-3), of(4), no)},
		"at most, one value, right at": {doms(of(-3), both), tells(1, api.Le, 6, -2), doms(of(-3), yes)},
	})
}

// P11.2: what is known comes first: it tells of the variable that tells, whatever values this one has; if it has the other value alone, none and no.
func TestReifKnownFirst(t *testing.T) {
	both, no, yes := to(0, 1), of(0), of(1)
	two, three := to(0, 2), to(3, 9)
	for name, x := range map[string]struct {
		d  []api.Range
		op int
		so bool
	}{
		"at most":         {two, api.Le, true},
		"at most, not":    {three, api.Le, false},
		"is it":           {of(2), api.Eq, true},
		"is it not":       {three, api.Eq, false},
		"is it not, one":  {of(1), api.Eq, false},
		"is another":      {three, api.Ne, true},
		"is another, one": {of(1), api.Ne, true},
		"is no other":     {of(2), api.Ne, false},
	} {
		told, other := yes, no
		if !x.so {
			told, other = no, yes
		}
		c := tells(1, x.op, 4, 2)
		checkCases(t, map[string]prunedCase{
			name + ", both":  {doms(x.d, both), c, doms(x.d, told)},
			name + ", alone": {doms(x.d, told), c, doms(x.d, told)},
			name + ", other": {doms(x.d, other), c, nil},
		})
	}
}

// P11.2: the sum is not known, and the variable that tells has 1 alone: the sum is pruned.
func TestReifYes(t *testing.T) {
	yes, five, nine := of(1), of(-5, 2, 9), to(0, 9)
	checkCases(t, map[string]prunedCase{
		"at most":                      {doms(nine, yes), tells(1, api.Le, 9, 2), doms(to(0, 4), yes)},
		"at most, a number below 0":    {doms(nine, yes), tells(1, api.Le, -9, -2), doms(to(5, 9), yes)},
		"at most, several ranges":      {doms(five, yes), tells(1, api.Le, 8, 1), doms(of(-5, 2), yes)},
		"at most, of two":              {doms(nine, nine, yes), tells(2, api.Le, 4, 2, 1), doms(to(0, 2), to(0, 4), yes)},
		"at most, all stays":           {doms(to(0, 1), to(0, 1), yes), tells(2, api.Le, 1, 1, 1), doms(to(0, 1), to(0, 1), yes)},
		"is it":                        {doms(nine, yes), tells(1, api.Eq, 8, 2), doms(of(4), yes)},
		"is it, of two, many rounds":   {doms(to(1, 5), to(1, 5), yes), tells(2, api.Eq, 0, 3, -2), doms(of(2), of(3), yes)},
		"is it, below 0":               {doms(to(-9, 9), yes), tells(1, api.Eq, -8, 2), doms(of(-4), yes)},
		"is it, never":                 {doms(nine, yes), tells(1, api.Eq, 9, 2), nil},
		"is it, between ranges":        {doms(five, yes), tells(1, api.Eq, 3, 1), nil},
		"is another":                   {doms(nine, yes), tells(1, api.Ne, 8, 2), doms(of(0, 1, 2, 3, 5, 6, 7, 8, 9), yes)},
		"is another, no value of it":   {doms(nine, yes), tells(1, api.Ne, 9, 2), doms(nine, yes)},
		"is another, two are open":     {doms(nine, to(0, 1), yes), tells(2, api.Ne, 8, 2, 1), doms(nine, to(0, 1), yes)},
		"is another, of two, one open": {doms(nine, of(2), yes), tells(2, api.Ne, 8, 2, 1), doms(of(0, 1, 2, 4, 5, 6, 7, 8, 9), of(2), yes)},
	})
}

// P11.2: the sum is not known, and the variable that tells has 0 alone: what is Not the sum is pruned.
func TestReifNo(t *testing.T) {
	no, five, nine := of(0), of(-5, 2, 9), to(0, 9)
	checkCases(t, map[string]prunedCase{
		"at most":                      {doms(nine, no), tells(1, api.Le, 9, 2), doms(to(5, 9), no)},
		"at most, right at it":         {doms(nine, no), tells(1, api.Le, 8, 2), doms(to(5, 9), no)},
		"at most, a number below 0":    {doms(nine, no), tells(1, api.Le, -9, -2), doms(to(0, 4), no)},
		"at most, several ranges":      {doms(five, no), tells(1, api.Le, 1, 1), doms(of(2, 9), no)},
		"at most, of two":              {doms(to(0, 5), to(0, 5), no), tells(2, api.Le, 11, 2, 1), doms(to(4, 5), to(2, 5), no)},
		"at most, all stays":           {doms(to(0, 1), to(0, 1), no), tells(2, api.Le, 0, 1, 1), doms(to(0, 1), to(0, 1), no)},
		"is it":                        {doms(nine, no), tells(1, api.Eq, 8, 2), doms(of(0, 1, 2, 3, 5, 6, 7, 8, 9), no)},
		"is it, no value of it":        {doms(nine, no), tells(1, api.Eq, 9, 2), doms(nine, no)},
		"is it, two are open":          {doms(nine, to(0, 1), no), tells(2, api.Eq, 8, 2, 1), doms(nine, to(0, 1), no)},
		"is another":                   {doms(nine, no), tells(1, api.Ne, 8, 2), doms(of(4), no)},
		"is another, of two":           {doms(to(1, 5), to(1, 5), no), tells(2, api.Ne, 0, 3, -2), doms(of(2), of(3), no)},
		"is another, below 0":          {doms(to(-9, 9), no), tells(1, api.Ne, -8, 2), doms(of(-4), no)},
		"is another, always":           {doms(nine, no), tells(1, api.Ne, 9, 2), nil},
		"is another, between ranges":   {doms(five, no), tells(1, api.Ne, 3, 1), nil},
		"is it, of two, one open":      {doms(nine, of(2), no), tells(2, api.Eq, 8, 2, 1), doms(of(0, 1, 2, 4, 5, 6, 7, 8, 9), of(2), no)},
		"is it, what is left is known": {doms(to(3, 4), no), tells(1, api.Eq, 4, 1), doms(of(3), no)},
	})
}

// P11.2: the sum is not known, and the variable that tells has both values: all stays, also where the values, but not the ends, would tell.
func TestReifOpen(t *testing.T) {
	both, five, nine := to(0, 1), of(-5, 2, 9), to(0, 9)
	for name, x := range map[string]struct {
		d [][]api.Range
		c api.Con
	}{
		"at most":              {doms(nine, both), tells(1, api.Le, 4, 2)},
		"at most, just not so": {doms(to(0, 3), both), tells(1, api.Le, 5, 2)},
		"at most, just so":     {doms(to(2, 9), both), tells(1, api.Le, 4, 2)},
		"at most, of two":      {doms(nine, five, both), tells(2, api.Le, 4, 2, -1)},
		"is it":                {doms(nine, both), tells(1, api.Eq, 4, 2)},
		"is it, lower end":     {doms(nine, both), tells(1, api.Eq, 0, 2)},
		"is it, higher end":    {doms(nine, both), tells(1, api.Eq, 18, 2)},
		"is it, never":         {doms(nine, both), tells(1, api.Eq, 5, 2)},
		"is it, in a gap":      {doms(five, both), tells(1, api.Eq, 3, 1)},
		"is another":           {doms(nine, both), tells(1, api.Ne, 4, 2)},
		"is another, an end":   {doms(nine, both), tells(1, api.Ne, 18, 2)},
		"is another, always":   {doms(nine, both), tells(1, api.Ne, 5, 2)},
		"is another, in a gap": {doms(five, both), tells(1, api.Ne, 3, 1)},
	} {
		checkCases(t, map[string]prunedCase{name: {x.d, x.c, x.d}})
	}
}

// P11.2: the variables stand in whatever order; those of d that are not the constraint's stay as they are, whatever values they have.
func TestReifOthersStay(t *testing.T) {
	both, no, yes, nine := to(0, 1), of(0), of(1), to(0, 9)
	wide := of(-7, 0, 1, 5)
	checkCases(t, map[string]prunedCase{
		"B ahead, known":          {doms(both, to(0, 2)), over(tells(0, api.Le, 4, 2), 1), doms(yes, to(0, 2))},
		"B ahead, not so":         {doms(both, to(3, 9)), over(tells(0, api.Le, 4, 2), 1), doms(no, to(3, 9))},
		"B ahead, 1":              {doms(yes, nine), over(tells(0, api.Le, 4, 2), 1), doms(yes, to(0, 2))},
		"B ahead, 0":              {doms(no, nine), over(tells(0, api.Le, 4, 2), 1), doms(no, to(3, 9))},
		"B between":               {doms(nine, yes, nine), over(tells(1, api.Le, 4, 1, 2), 2, 0), doms(to(0, 2), yes, to(0, 4))},
		"B between, 0":            {doms(to(0, 5), no, to(0, 5)), over(tells(1, api.Le, 11, 1, 2), 2, 0), doms(to(4, 5), no, to(2, 5))},
		"several values, known":   {doms(wide, to(0, 2), both, both), over(tells(2, api.Le, 4, 2), 1), doms(wide, to(0, 2), yes, both)},
		"one value, known":        {doms(of(9), to(0, 2), both, no), over(tells(2, api.Le, 4, 2), 1), doms(of(9), to(0, 2), yes, no)},
		"several values, 1":       {doms(wide, nine, yes, both), over(tells(2, api.Le, 4, 2), 1), doms(wide, to(0, 2), yes, both)},
		"one value, 1":            {doms(of(9), nine, yes, no), over(tells(2, api.Le, 4, 2), 1), doms(of(9), to(0, 2), yes, no)},
		"several values, 0":       {doms(wide, nine, no, both), over(tells(2, api.Le, 4, 2), 1), doms(wide, to(3, 9), no, both)},
		"one value, 0":            {doms(of(9), nine, no, yes), over(tells(2, api.Le, 4, 2), 1), doms(of(9), to(3, 9), no, yes)},
		"several values, open":    {doms(wide, nine, both, both), over(tells(2, api.Le, 4, 2), 1), doms(wide, nine, both, both)},
		"one value, open":         {doms(of(9), nine, both, yes), over(tells(2, api.Le, 4, 2), 1), doms(of(9), nine, both, yes)},
		"truths in the sum":       {doms(both, both, both), over(tells(1, api.Le, 2, 1, 1), 0, 2), doms(both, yes, both)},
		"truths in the sum, open": {doms(both, both, both), over(tells(1, api.Le, 1, 1, 1), 0, 2), doms(both, both, both)},
		"no, whatever they are":   {doms(wide, to(3, 9), yes, of(2)), over(tells(2, api.Le, 4, 2), 1), nil},
	})
}

// P11.2: a domain that is empty, the constraint's or not, or that would become so: none and no.
func TestReifEmpty(t *testing.T) {
	both, no, yes, nine := to(0, 1), of(0), of(1), to(0, 9)
	for _, empty := range [][]api.Range{nil, {}} {
		for op := range api.Ops {
			for _, b := range doms(both, no, yes) {
				checkCases(t, map[string]prunedCase{
					"the sum's one":           {doms(empty, b), tells(1, op, 4, 2), nil},
					"the sum's first":         {doms(empty, nine, b), tells(2, op, 4, 2, 1), nil},
					"the sum's last":          {doms(nine, empty, b), tells(2, op, 4, 2, 1), nil},
					"not its, open":           {doms(nine, b, empty), tells(1, op, 4, 2), nil},
					"not its, known, above":   {doms(to(3, 9), b, empty), tells(1, op, 4, 2), nil},
					"not its, known, below":   {doms(to(0, 1), b, empty), tells(1, op, 4, 2), nil},
					"not its, known, one":     {doms(of(2), b, empty), tells(1, op, 4, 2), nil},
					"not its, ahead":          {doms(empty, nine, b), over(tells(2, op, 4, 2), 1), nil},
					"not its, between":        {doms(nine, empty, b), tells(2, op, 4, 2), nil},
					"not its, and the sum's":  {doms(empty, b, empty), tells(1, op, 4, 2), nil},
					"not its, ahead of known": {doms(empty, of(2), b), over(tells(2, op, 4, 2), 1), nil},
				})
			}
			checkCases(t, map[string]prunedCase{
				"B, open":  {doms(nine, empty), tells(1, op, 4, 2), nil},
				"B, known": {doms(of(2), empty), tells(1, op, 4, 2), nil},
				"B, above": {doms(to(3, 9), empty), tells(1, op, 4, 2), nil},
				"all":      {doms(empty, empty), tells(1, op, 4, 2), nil},
			})
		}
	}
	checkCases(t, map[string]prunedCase{
		"B would become, known so":     {doms(to(0, 2), no), tells(1, api.Le, 4, 2), nil},
		"B would become, known not so": {doms(to(3, 9), yes), tells(1, api.Le, 4, 2), nil},
		"the sum's would become, 1":    {doms(nine, yes), tells(1, api.Eq, 9, 2), nil},
		"the sum's would become, 0":    {doms(nine, no), tells(1, api.Ne, 9, 2), nil},
		"one of two would become, 1":   {doms(to(1, 3), to(0, 1), yes), tells(2, api.Eq, 3, 2, 4), nil},
	})
}

// P11.2: by Vars, Coefs, Op, Rhs and B: S is a ConLin of these, whatever else is there.
func TestReifKinds(t *testing.T) {
	for kind := range api.ConKinds {
		c := tells(1, api.Le, 4, 2)
		c.Kind, c.Rows = kind, [][]int{{0, 1}}
		for _, x := range []prunedCase{
			{d: doms(to(0, 2), to(0, 1)), want: doms(to(0, 2), of(1))},
			{d: doms(to(0, 5), of(1)), want: doms(to(0, 2), of(1))},
			{d: doms(to(0, 5), of(0)), want: doms(to(3, 5), of(0))},
		} {
			if l, ok := Reif(x.d, c); !ok || !sameDoms(l, x.want) {
				t.Error(kind, l, ok)
			}
		}
	}
}

// P11.2: sums that come up to 2^62, and as many variables and values as there may be.
func TestReifGreat(t *testing.T) {
	both, no, yes := to(0, 1), of(0), of(1)
	ends, great := of(-top, top), 1<<42
	for name, x := range map[string]prunedCase{
		"at the bound, open":            {doms(ends, both), tells(1, api.Le, 2*top, great-2), doms(ends, both)},
		"at the bound, 1":               {doms(ends, yes), tells(1, api.Le, -2*top, great-2), doms(of(-top), yes)},
		"at the bound, 0":               {doms(ends, no), tells(1, api.Le, 2*top, 2-great), doms(of(-top), no)},
		"Rhs 2^62 less a value":         {doms(ends, both), tells(1, api.Le, most-top, 1), doms(ends, yes)},
		"Rhs -2^62 and a value":         {doms(ends, both), tells(1, api.Le, -most+top, 1), doms(ends, no)},
		"Rhs 2^62 less a value, is it":  {doms(ends, both), tells(1, api.Eq, most-top, 1), doms(ends, no)},
		"Rhs -2^62 and a value, other":  {doms(ends, both), tells(1, api.Ne, -most+top, -1), doms(ends, yes)},
		"Rhs 2^62 less a value, and no": {doms(ends, no), tells(1, api.Le, most-top, 1), nil},
		"the greatest number, open":     {doms(ends, both), tells(1, api.Le, 0, great), doms(ends, both)},
		"the greatest number, 1":        {doms(ends, yes), tells(1, api.Le, 0, great), doms(of(-top), yes)},
		"the greatest number, 0":        {doms(ends, no), tells(1, api.Le, 0, great), doms(of(top), no)},
		"the greatest number, below 0":  {doms(ends, no), tells(1, api.Le, 0, -great), doms(of(-top), no)},
		"the greatest number, is it":    {doms(of(-top, 0, top), yes), tells(1, api.Eq, 0, great), doms(of(0), yes)},
		"the greatest number, is other": {doms(of(-top, 0, top), no), tells(1, api.Ne, 0, great), doms(of(0), no)},
		"half and half":                 {doms(ends, no), tells(1, api.Le, most/2-1, great/2), doms(of(top), no)},
		"half and half, known":          {doms(ends, both), tells(1, api.Le, most/2, great/2), doms(ends, yes)},
		"half and half, not":            {doms(ends, both), tells(1, api.Eq, -most/2, -great/2), doms(ends, both)},
	} {
		x.check(t, name)
	}
	many := append(slices.Repeat(doms(evens(-api.MaxSize, api.MaxSize)), api.MaxVars-1), both)
	ones := slices.Repeat([]int{1}, api.MaxVars-1)
	least, greatest := -api.MaxSize*len(ones), (api.MaxSize-2)*len(ones)
	with := func(x, b []api.Range) [][]api.Range { return append(slices.Repeat(doms(x), len(ones)), b) }
	c := func(op, rhs int) api.Con { return tells(api.MaxVars-1, op, rhs, ones...) }
	for name, x := range map[string]prunedCase{
		"many, so":     {many, c(api.Le, greatest), with(many[0], yes)},
		"many, not so": {many, c(api.Le, least-1), with(many[0], no)},
		"many, open":   {many, c(api.Le, greatest-1), many},
		"many, 1":      {with(many[0], yes), c(api.Le, least+5), with(evens(-api.MaxSize, 3), yes)},
		"many, 0":      {with(many[0], no), c(api.Le, greatest-6), with(evens(api.MaxSize-6, 3), no)},
	} {
		x.check(t, name)
	}
}

// subsets are the domains of all choices of n values from lo on, the empty one first.
func subsets(lo, n int) [][]api.Range {
	var l [][]api.Range
	for bits := range 1 << n {
		var values []int
		for i := range n {
			if bits>>i&1 == 1 {
				values = append(values, lo+i)
			}
		}
		l = append(l, of(values...))
	}
	return l
}

// reifs goes over all domains of four values of one variable, and of three of two, with sums of them, and a variable that tells, without and with values.
func reifs() func(func([][]api.Range, api.Con) bool) {
	return func(yield func([][]api.Range, api.Con) bool) {
		for n, values := range [][][]api.Range{1: subsets(-2, 4), 2: subsets(-1, 3)} {
			for d := range tuples(values, n) {
				for coefs := range tuples([]int{-2, -1, 1, 3}, n) {
					for rhs := -7; rhs <= 7 && n > 0; rhs++ {
						for op := range api.Ops {
							for _, b := range subsets(0, 2) {
								if !yield(append(slices.Clone(d), b), tells(n, op, rhs, coefs...)) {
									return
								}
							}
						}
					}
				}
			}
		}
	}
}

// P11.2: all domains of small values, the empty one too, against the words.
func TestReifAgainstAllValues(t *testing.T) {
	for d, c := range reifs() {
		checkSlow(t, d, c)
	}
}

// P11.2: some of up to six variables, in whatever order: each row comes often.
func TestReifAgainstSomeValues(t *testing.T) {
	r := dice(13)
	rows := map[[3]int]int{}
	for range 30000 {
		d, c := r.reifCase()
		checkSlow(t, d, c)
		row := [3]int{c.Op, dom.Size(d[c.B]), 2}
		if so, known := slowKnown(d, c); known && so {
			row[2] = 1
		} else if known {
			row[2] = 0
		}
		rows[row]++
	}
	for row, n := range rows {
		if n < 20 {
			t.Error(row, n)
		}
	}
	if len(rows) != 2*3*api.Ops {
		t.Error(rows)
	}
}

// checkSolutions holds the first sentence of P11.3, and that of known values it tells whether they solve.
func checkSolutions(t *testing.T, d [][]api.Range, c api.Con) {
	t.Helper()
	l, ok := prune(d, c)
	if ok && (len(l) != len(d) || !within(l, d) || anyEmpty(l)) {
		t.Fatalf("prune(%v, %v): %v", d, c, l)
	}
	if anyEmpty(d) {
		return
	}
	found := 0
	for a := range solutions(d, c) {
		found++
		for _, v := range model.Uses(c) {
			if !ok || !dom.Has(l[v], a[v]) {
				t.Fatalf("prune(%v, %v): %v, a solution is %v", d, c, l, a)
			}
		}
	}
	open := func(v int) bool { return dom.Size(d[v]) > 1 }
	if !slices.ContainsFunc(model.Uses(c), open) && ok != (found == 1) {
		t.Fatalf("prune(%v, %v): %v, of one list of values", d, c, ok)
	}
}

// checkAgain holds the second sentence of P11.3 of a clause.
func checkAgain(t *testing.T, d [][]api.Range, c api.Con) {
	t.Helper()
	l, ok := prune(d, c)
	if !ok {
		l = make([][]api.Range, len(d))
	} else if again, ok := prune(l, c); !ok || !sameDoms(again, l) {
		t.Fatalf("prune(%v, %v): %v, and again %v %v", d, c, l, again, ok)
	}
	for i, x := range d {
		for _, v := range dom.Values(x) {
			fewer := slices.Clone(d)
			fewer[i] = dom.Minus(x, of(v))
			if less, _ := prune(fewer, c); !within(less, l) {
				t.Fatalf("prune(%v, %v): %v, but of %v: %v", d, c, l, fewer, less)
			}
		}
	}
}

// P11.3: of clauses no solution's values go, pruned again all stays, and of fewer values no more stays.
func TestClauseFollows(t *testing.T) {
	for n := 1; n <= 4; n++ {
		for coefs := range tuples([]int{1, -1}, n) {
			for d := range tuples(subsets(0, 2), n) {
				checkSolutions(t, d, clause(coefs...))
				checkAgain(t, d, clause(coefs...))
			}
		}
	}
	r := dice(37)
	for range 3000 {
		d, c := r.clauseCase()
		checkSolutions(t, d, c)
		checkAgain(t, d, c)
	}
}

// P11.3: of variables that tell of sums no solution's values go.
func TestReifFollows(t *testing.T) {
	for d, c := range reifs() {
		checkSolutions(t, d, c)
	}
	r := dice(41)
	for range 5000 {
		d, c := r.reifCase()
		checkSolutions(t, d, c)
	}
}

// memoryCases leave all, keep a value, and prune a sum of each kind.
func memoryCases() map[string]prunedCase {
	both, no, yes, five := to(0, 1), of(0), of(1), of(-5, -2, 1, 4, 8)
	d := doms(both, no, yes, five, of(0, 2, 3, 5, 7), both)
	with := func(v int, x []api.Range) [][]api.Range {
		l := slices.Clone(d)
		l[v] = x
		return l
	}
	sum := func(b, op, rhs int) api.Con { return over(tells(b, op, rhs, 2), 3) }
	return map[string]prunedCase{
		"two may be so":           {d, over(clause(1, -1, 1), 0, 5, 1), d},
		"one is so":               {d, over(clause(1, -1), 0, 1), d},
		"one is so, no other may": {d, over(clause(1, 1), 1, 2), d},
		"one alone may be 1":      {d, over(clause(-1, 1, 1), 2, 1, 5), with(5, yes)},
		"one alone may be 0":      {d, over(clause(-1, -1), 2, 0), with(0, no)},
		"known so":                {d, sum(0, api.Le, 16), with(0, yes)},
		"known not so":            {d, sum(5, api.Le, -11), with(5, no)},
		"known, and told":         {d, sum(2, api.Le, 16), d},
		"not known, open":         {d, sum(0, api.Eq, 2), d},
		"not known, at most":      {d, sum(2, api.Le, 3), with(3, of(-5, -2, 1))},
		"not known, is it":        {d, sum(2, api.Eq, 2), with(3, of(1))},
		"not known, is another":   {d, sum(2, api.Ne, 2), with(3, of(-5, -2, 4, 8))},
		"not known, not at most":  {d, sum(1, api.Le, 3), with(3, of(4, 8))},
		"not known, is it not":    {d, sum(1, api.Eq, 2), with(3, of(-5, -2, 4, 8))},
		"not known, no other":     {d, sum(1, api.Ne, 2), with(3, of(1))},
		"not known, all stays":    {d, over(tells(2, api.Le, 14, 2, -1), 3, 4), d},
	}
}

// roomy is a list with room behind it that is somebody else's.
func roomy[T any](l []T, rest T) []T {
	behind := append(slices.Clone(l), rest, rest)
	return behind[:len(l)]
}

// roomyDoms are the same domains, with room behind each, and behind all.
func roomyDoms(d [][]api.Range, rest api.Range) [][]api.Range {
	l := roomy(copyDoms(d), []api.Range{rest})
	for i := range l {
		l[i] = roomy(l[i], rest)
	}
	return l
}

// roomyCon is the same constraint, with room behind its lists.
func roomyCon(c api.Con) api.Con {
	c.Vars, c.Coefs = roomy(c.Vars, 2), roomy(c.Coefs, 7)
	return c
}

// spoil writes over all that lists have, spare room too.
func spoil(l [][]api.Range, bad api.Range) {
	for _, x := range l[:cap(l)] {
		x = x[:cap(x)]
		for i := range x {
			x[i] = bad
		}
	}
}

// checkRoom holds domains and a constraint with room behind them against what they were, the room too.
func checkRoom(t *testing.T, name string, d [][]api.Range, c api.Con, was prunedCase, rest api.Range) {
	t.Helper()
	if !sameDoms(d, was.d) {
		t.Fatalf("%s: %v, was %v", name, d, was.d)
	}
	if n := len(d); !slices.Equal(d[:n+1][n], []api.Range{rest}) {
		t.Fatalf("%s: the room behind all has %v", name, d[:n+2])
	}
	for _, x := range d {
		if n := len(x); x[:n+1][n] != rest {
			t.Fatalf("%s: the room behind one has %v", name, x[:n+2])
		}
	}
	n := len(was.c.Vars) + 2
	vars, coefs := append(slices.Clone(was.c.Vars), 2, 2), append(slices.Clone(was.c.Coefs), 7, 7)
	if !slices.Equal(c.Vars[:n], vars) || !slices.Equal(c.Coefs[:n], coefs) {
		t.Fatalf("%s: %v %v, was %v", name, c.Vars[:n], c.Coefs[:n], was.c)
	}
}

// R4: what is handed in stays as it is, and the room behind it; what is told is its owner's.
func TestMemory(t *testing.T) {
	rest, bad := api.Range{Lo: 90, Hi: 99}, api.Range{Lo: -77, Hi: -77}
	for name, x := range memoryCases() {
		d, c := roomyDoms(x.d, rest), roomyCon(x.c)
		x.check(t, name)
		l, ok := prune(d, c)
		if !ok || !sameDoms(l, x.want) {
			t.Fatalf("%s: %v %v, want %v", name, l, ok, x.want)
		}
		checkRoom(t, name, d, c, x, rest)
		spoil(l, bad)
		clear(l[:cap(l)])
		checkRoom(t, name, d, c, x, rest)

		kept, _ := prune(d, c)
		spoil(d, bad)
		clear(c.Vars)
		clear(c.Coefs)
		if !sameDoms(kept, x.want) {
			t.Errorf("%s: %v became %v", name, x.want, kept)
		}
	}
}

// R4: with none and no, too, what is handed in stays as it is.
func TestMemoryOfNo(t *testing.T) {
	rest := api.Range{Lo: 90, Hi: 99}
	both, no, yes, nine := to(0, 1), of(0), of(1), to(0, 9)
	for name, x := range map[string]prunedCase{
		"none may be":            {doms(no, yes), clause(1, -1), nil},
		"one alone, one empty":   {doms(both, no, nil), clause(1, 1), nil},
		"known, but 0":           {doms(to(0, 2), no), tells(1, api.Le, 4, 2), nil},
		"known not, but 1":       {doms(to(3, 9), yes), tells(1, api.Le, 4, 2), nil},
		"known, one empty":       {doms(to(0, 2), both, nil), tells(1, api.Le, 4, 2), nil},
		"1, but never":           {doms(nine, yes), tells(1, api.Eq, 9, 2), nil},
		"1, but never, of two":   {doms(to(1, 3), both, yes), tells(2, api.Eq, 3, 2, 4), nil},
		"0, but always":          {doms(nine, no), tells(1, api.Ne, 9, 2), nil},
		"open, one empty":        {doms(nine, both, nil), tells(1, api.Ne, 8, 2), nil},
		"1, not known, an empty": {doms(nine, yes, nil), tells(1, api.Ne, 8, 2), nil},
	} {
		d, c := roomyDoms(x.d, rest), roomyCon(x.c)
		if l, ok := prune(d, c); l != nil || ok {
			t.Errorf("%s: %v %v", name, l, ok)
		}
		checkRoom(t, name, d, c, x, rest)
	}
}

// R4: no two lists of an answer share memory, not even if those that are handed in do.
func TestSharedMemory(t *testing.T) {
	both, no, yes, five, bad := to(0, 1), of(0), of(1), of(-5, -2, 1, 4, 8), api.Range{Lo: -77, Hi: -77}
	d := doms(both, no, yes, five, both, no, yes, five, both)
	was := copyDoms(d)
	sum := func(b, op, rhs int) api.Con { return over(tells(b, op, rhs, 2, 1), 3, 7) }
	for name, c := range map[string]api.Con{
		"two may be":   over(clause(1, 1), 0, 4),
		"one may be":   over(clause(1, 1, 1), 0, 1, 5),
		"known":        sum(4, api.Le, 24),
		"known, 1":     sum(6, api.Le, 24),
		"known not so": sum(8, api.Le, -16),
		"1":            sum(2, api.Le, 1),
		"1, is it":     sum(2, api.Eq, 3),
		"0":            sum(1, api.Le, 10),
		"0, is it":     sum(1, api.Eq, 3),
		"open":         sum(0, api.Eq, 3),
	} {
		first, ok := prune(d, c)
		if !ok {
			t.Fatalf("%s: no", name)
		}
		for i := range first {
			l, _ := prune(d, c)
			kept := copyDoms(l)
			spoil(l[i:i+1:i+1], bad)
			kept[i] = l[i]
			if !sameDoms(l, kept) || !sameDoms(d, was) {
				t.Fatalf("%s: %v, was %v, of %v", name, l, kept, d)
			}
		}
	}
}

// R3, R5: the same call answers the same, whatever was asked between; a nil list and an empty one are the same.
func TestOneAnswer(t *testing.T) {
	r := dice(61)
	for i := range 400 {
		deal := []func() ([][]api.Range, api.Con){r.clauseCase, r.reifCase}[i%2]
		d, c := deal()
		first, ok := prune(d, c)
		for range 5 {
			prune(r.clauseCase())
			prune(r.reifCase())
			again := copyCon(c)
			again.Rows = [][]int{}
			if l, now := prune(copyDoms(d), again); now != ok || !sameDoms(l, first) {
				t.Fatalf("prune(%v, %v): %v %v, was %v %v", d, c, l, now, first, ok)
			}
		}
	}
}
