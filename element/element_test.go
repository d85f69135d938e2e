package element

import (
	"slices"
	"testing"

	"secateur/api"
	"secateur/dom"
	"secateur/meaning"
	"secateur/model"
)

const top = 1 << 20 // the greatest value

// of is the domain of some values.
func of(l ...int) []api.Range {
	d, e := dom.Of(l)
	if e != api.OK {
		panic(e)
	}
	return d
}

func to(lo, hi int) []api.Range { return []api.Range{{Lo: lo, Hi: hi}} }

// doms are lists of domains, written shorter.
func doms(l ...[]api.Range) [][]api.Range { return l }

// elem is the constraint that the list's variable of the index's number is the result: the index, the result, the list.
func elem(vars ...int) api.Con { return api.Con{Kind: api.ConElem, Vars: vars} }

// upTo are the numbers from 0 on, ahead of n.
func upTo(n int) []int {
	l := make([]int, n)
	for i := range l {
		l[i] = i
	}
	return l
}

// evens are n values, each 2 above the one ahead.
func evens(lo, n int) []api.Range {
	var l []int
	for i := range n {
		l = append(l, lo+2*i)
	}
	return of(l...)
}

func sameDoms(a, b [][]api.Range) bool { return slices.EqualFunc(a, b, dom.Same) }

// copyDoms are the same domains in other memory.
func copyDoms(d [][]api.Range) [][]api.Range {
	var l [][]api.Range
	for _, x := range d {
		l = append(l, slices.Clone(x))
	}
	return l
}

// within tells whether domains have no value that others have not.
func within(a, b [][]api.Range) bool {
	for i, x := range a {
		if len(dom.Minus(x, b[i])) > 0 {
			return false
		}
	}
	return true
}

// dice are numbers that look like chance, and are the same ones each time.
type dice uint64

func (r *dice) next(n int) int {
	*r = *r*6364136223846793005 + 1442695040888963407
	return int(uint64(*r)>>33) % n
}

// domain are up to n values from lo to hi, at least one.
func (r *dice) domain(n, lo, hi int) []api.Range {
	var l []int
	for range 1 + r.next(n) {
		l = append(l, lo+r.next(hi-lo+1))
	}
	return of(l...)
}

// vars are n of so many variables, all others, in whatever order.
func (r *dice) vars(n, variables int) []int {
	var l []int
	for len(l) < n {
		if v := r.next(variables); !slices.Contains(l, v) {
			l = append(l, v)
		}
	}
	return l
}

// solutions goes over all values of a constraint's variables with which it holds; the list is one, and changes.
func solutions(d [][]api.Range, c api.Con) func(func([]int) bool) {
	a := make([]int, len(d))
	uses := model.Uses(c)
	var from func(i int, yield func([]int) bool) bool
	from = func(i int, yield func([]int) bool) bool {
		if i == len(uses) {
			return !meaning.Holds(c, a) || yield(a)
		}
		for _, value := range dom.Values(d[uses[i]]) {
			a[uses[i]] = value
			if !from(i+1, yield) {
				return false
			}
		}
		return true
	}
	return func(yield func([]int) bool) { from(0, yield) }
}

// slowPrune prunes by the words of P10.1, going over all values.
func slowPrune(d [][]api.Range, c api.Con) ([][]api.Range, bool) {
	for _, x := range d {
		if len(x) == 0 {
			return nil, false
		}
	}
	supported := make([]map[int]int, len(d))
	for i := range supported {
		supported[i] = map[int]int{}
	}
	for a := range solutions(d, c) {
		for _, v := range c.Vars {
			supported[v][a[v]]++
		}
	}
	l := copyDoms(d)
	for _, v := range c.Vars {
		if len(supported[v]) == 0 {
			return nil, false
		}
		var values []int
		for value := range supported[v] {
			values = append(values, value)
		}
		l[v] = of(values...)
	}
	return l, true
}

// prunedCase are domains, variables, and what is left of the domains; nil: none and no.
type prunedCase struct {
	d    [][]api.Range
	vars []int
	want [][]api.Range
}

// check holds a case against Prune.
func (x prunedCase) check(t *testing.T, name string) {
	t.Helper()
	if e := model.Con(x.d, elem(x.vars...)); e != api.OK {
		t.Fatalf("%s: no constraint: %d", name, e)
	}
	x.checkAny(t, name)
}

// checkAny holds a case against Prune, also one whose variables stand more than once among the constraint's.
func (x prunedCase) checkAny(t *testing.T, name string) {
	t.Helper()
	l, ok := Prune(x.d, elem(x.vars...))
	if ok != (x.want != nil) || !sameDoms(l, x.want) || !ok && l != nil {
		t.Errorf("%s: Prune(%v, %v): %v %v, want %v", name, x.d, x.vars, l, ok, x.want)
	}
}

// checkSlowCase holds a case against the slow way.
func (x prunedCase) checkSlowCase(t *testing.T, name string) {
	t.Helper()
	if l, ok := slowPrune(x.d, elem(x.vars...)); ok != (x.want != nil) || !sameDoms(l, x.want) {
		t.Errorf("%s: the slow way says %v %v", name, l, ok)
	}
}

// checkCases holds cases against Prune, and against the slow way.
func checkCases(t *testing.T, cases map[string]prunedCase) {
	t.Helper()
	for name, x := range cases {
		x.check(t, name)
		x.checkSlowCase(t, name)
	}
}

// The chapter's examples.
func TestExamples(t *testing.T) {
	result, first, second := to(2, 9), to(1, 3), of(7)
	checkCases(t, map[string]prunedCase{
		"two places":     {doms(to(0, 5), result, first, second), upTo(4), doms(to(0, 1), of(2, 3, 7), first, second)},
		"the place is 1": {doms(of(1), result, first, second), upTo(4), doms(of(1), of(7), first, second)},
	})
}

// P10.1: an index with one value: the list's variable there and the result lose what they have not in common, and nobody else loses any.
func TestPruneOneIndex(t *testing.T) {
	checkCases(t, map[string]prunedCase{
		"both lose":                   {doms(of(0), to(2, 9), to(1, 3)), upTo(3), doms(of(0), to(2, 3), to(2, 3))},
		"the result loses":            {doms(of(0), to(0, 9), to(1, 3)), upTo(3), doms(of(0), to(1, 3), to(1, 3))},
		"the list's variable loses":   {doms(of(0), to(1, 3), to(0, 9)), upTo(3), doms(of(0), to(1, 3), to(1, 3))},
		"neither loses":               {doms(of(0), to(1, 3), to(1, 3)), upTo(3), doms(of(0), to(1, 3), to(1, 3))},
		"one value each":              {doms(of(0), of(4), of(4)), upTo(3), doms(of(0), of(4), of(4))},
		"the result is known":         {doms(of(0), of(4), to(0, 9)), upTo(3), doms(of(0), of(4), of(4))},
		"the list's is known":         {doms(of(0), to(0, 9), of(4)), upTo(3), doms(of(0), of(4), of(4))},
		"the first of some":           {doms(of(0), to(2, 5), to(0, 3), to(0, 9), to(4, 9)), upTo(5), doms(of(0), to(2, 3), to(2, 3), to(0, 9), to(4, 9))},
		"the middle one":              {doms(of(1), to(2, 5), to(0, 3), to(4, 9), to(0, 9)), upTo(5), doms(of(1), to(4, 5), to(0, 3), to(4, 5), to(0, 9))},
		"the last one":                {doms(of(2), to(2, 5), to(0, 3), to(0, 9), to(4, 9)), upTo(5), doms(of(2), to(4, 5), to(0, 3), to(0, 9), to(4, 5))},
		"domains of several ranges":   {doms(of(0), of(1, 2, 5, 6, 9), of(0, 2, 3, 5, 9, 11)), upTo(3), doms(of(0), of(2, 5, 9), of(2, 5, 9))},
		"values between":              {doms(of(0), of(1, 3, 5), of(0, 2, 4)), upTo(3), nil},
		"below 0":                     {doms(of(0), to(-9, -3), to(-5, 5)), upTo(3), doms(of(0), to(-5, -3), to(-5, -3))},
		"below 0 is not above":        {doms(of(0), of(-3), of(3)), upTo(3), nil},
		"below 0, and above":          {doms(of(0), of(-3, 3), of(-3, 0, 3)), upTo(3), doms(of(0), of(-3, 3), of(-3, 3))},
		"zeros":                       {doms(of(0), of(0), of(-1, 0, 1)), upTo(3), doms(of(0), of(0), of(0))},
		"nothing in common":           {doms(of(0), to(0, 3), to(4, 9), to(0, 3)), upTo(4), nil},
		"no place, below 0":           {doms(of(-1), to(0, 3), to(0, 3)), upTo(3), nil},
		"no place, right behind":      {doms(of(1), to(0, 3), to(0, 3)), upTo(3), nil},
		"no place, right behind some": {doms(of(3), to(0, 3), to(0, 3), to(0, 3), to(0, 3)), upTo(5), nil},
		"ends of all values":          {doms(of(0), of(-top, top), of(-top, 0, top)), upTo(3), doms(of(0), of(-top, top), of(-top, top))},
	})
}

// P10.1, P10.2: an index with several values: it loses places, the result loses values, and no variable of the list does, if two places stay.
func TestPruneManyIndices(t *testing.T) {
	three, nine := to(0, 2), to(0, 9)
	checkCases(t, map[string]prunedCase{
		"all stays":                    {doms(three, nine, to(0, 3), to(2, 6), to(5, 9)), upTo(5), doms(three, nine, to(0, 3), to(2, 6), to(5, 9))},
		"the first place goes":         {doms(three, to(4, 9), to(0, 3), to(2, 6), to(5, 9)), upTo(5), doms(to(1, 2), to(4, 9), to(0, 3), to(2, 6), to(5, 9))},
		"the middle place goes":        {doms(three, to(4, 9), to(0, 5), to(0, 3), to(6, 8)), upTo(5), doms(of(0, 2), to(4, 8), to(0, 5), to(0, 3), to(6, 8))},
		"the last place goes":          {doms(three, to(0, 3), to(0, 1), to(2, 6), to(5, 9)), upTo(5), doms(to(0, 1), to(0, 3), to(0, 1), to(2, 6), to(5, 9))},
		"all places but one go":        {doms(three, to(3, 5), to(0, 2), to(4, 9), to(6, 7)), upTo(5), doms(of(1), to(4, 5), to(0, 2), to(4, 5), to(6, 7))},
		"all places go":                {doms(three, to(3, 5), to(0, 2), to(6, 9), of(-3)), upTo(5), nil},
		"the index skips a place":      {doms(of(0, 2), nine, to(0, 1), to(4, 5), to(7, 8)), upTo(5), doms(of(0, 2), of(0, 1, 7, 8), to(0, 1), to(4, 5), to(7, 8))},
		"a value of a skipped place":   {doms(of(0, 2), of(1, 4), to(0, 1), to(4, 5), to(7, 8)), upTo(5), doms(of(0), of(1), of(1), to(4, 5), to(7, 8))},
		"indices below 0":              {doms(to(-3, 1), nine, to(0, 1), to(4, 5), to(7, 8)), upTo(5), doms(of(0, 1), of(0, 1, 4, 5), to(0, 1), to(4, 5), to(7, 8))},
		"indices beyond the end":       {doms(to(1, 9), nine, to(0, 1), to(4, 5), to(7, 8)), upTo(5), doms(of(1, 2), of(4, 5, 7, 8), to(0, 1), to(4, 5), to(7, 8))},
		"indices on both sides":        {doms(of(-top, -1, 1, 3, top), nine, to(0, 1), to(4, 5), to(7, 8)), upTo(5), doms(of(1), of(4, 5), to(0, 1), to(4, 5), to(7, 8))},
		"indices below 0 alone":        {doms(to(-3, -1), nine, to(0, 1), to(4, 5)), upTo(4), nil},
		"indices beyond the end alone": {doms(to(2, 4), nine, to(0, 1), to(4, 5)), upTo(4), nil},
		"indices on both sides alone":  {doms(of(-1, 2), nine, to(0, 1), to(4, 5)), upTo(4), nil},
		"a list of one, of many":       {doms(to(-5, 5), to(2, 9), to(1, 3)), upTo(3), doms(of(0), to(2, 3), to(2, 3))},
		"ranges become one":            {doms(three, nine, of(1, 4), of(2, 5), of(3)), upTo(5), doms(three, to(1, 5), of(1, 4), of(2, 5), of(3))},
		"a range becomes some":         {doms(three, nine, of(1), of(9), of(3)), upTo(5), doms(three, of(1, 3, 9), of(1), of(9), of(3))},
		"the same one at two places":   {doms(three, nine, of(4), of(4), of(4)), upTo(5), doms(three, of(4), of(4), of(4), of(4))},
		"the result is known":          {doms(three, of(4), to(0, 4), to(5, 9), to(3, 7)), upTo(5), doms(of(0, 2), of(4), to(0, 4), to(5, 9), to(3, 7))},
		"just one value in common":     {doms(three, to(3, 5), to(0, 3), to(5, 9), to(6, 9)), upTo(5), doms(of(0, 1), of(3, 5), to(0, 3), to(5, 9), to(6, 9))},
		"below 0":                      {doms(to(0, 1), to(-9, -3), to(-5, 5), of(-20, -8, 8)), upTo(4), doms(to(0, 1), of(-8, -5, -4, -3), to(-5, 5), of(-20, -8, 8))},
		"ends of all values":           {doms(to(0, 1), of(-top, 0, top), of(-top, 1), of(2, top)), upTo(4), doms(to(0, 1), of(-top, top), of(-top, 1), of(2, top))},
	})
}

// P10.1: the variables stand in whatever order; variables of d that are not the constraint's stay as they are, and take nothing away.
func TestPruneOthersStay(t *testing.T) {
	nine := to(0, 9)
	checkCases(t, map[string]prunedCase{
		"turned":                  {doms(of(7), to(1, 3), to(2, 9), to(0, 5)), []int{3, 2, 1, 0}, doms(of(7), to(1, 3), of(2, 3, 7), of(0, 1))},
		"the list first":          {doms(to(1, 3), of(7), of(0), to(2, 9)), []int{2, 3, 0, 1}, doms(to(2, 3), of(7), of(0), to(2, 3))},
		"the list turned":         {doms(of(0), to(2, 9), to(1, 3), of(7)), []int{0, 1, 3, 2}, doms(of(0), of(7), to(1, 3), of(7))},
		"the result first":        {doms(to(2, 9), of(1), to(1, 3), of(7)), []int{1, 0, 2, 3}, doms(of(7), of(1), to(1, 3), of(7))},
		"several values, behind":  {doms(of(0), to(2, 9), to(1, 3), nine), upTo(3), doms(of(0), to(2, 3), to(2, 3), nine)},
		"several values, ahead":   {doms(nine, of(0), to(2, 9), to(1, 3)), []int{1, 2, 3}, doms(nine, of(0), to(2, 3), to(2, 3))},
		"several values, between": {doms(of(0), of(-4, 4), to(2, 9), nine, to(1, 3)), []int{0, 2, 4}, doms(of(0), of(-4, 4), to(2, 3), nine, to(2, 3))},
		"one value, behind":       {doms(to(0, 3), to(2, 9), to(1, 3), of(9), of(-7)), upTo(4), doms(of(0, 1), of(2, 3, 9), to(1, 3), of(9), of(-7))},
		"one value, ahead":        {doms(of(5), to(0, 3), to(2, 9), to(1, 3), of(9)), []int{1, 2, 3, 4}, doms(of(5), of(0, 1), of(2, 3, 9), to(1, 3), of(9))},
		"no, whatever they are":   {doms(nine, of(1), of(5), of(6), of(3)), []int{1, 2, 4, 3}, nil},
	})
}

// P10.1: a domain that is empty, the constraint's or not, or that would become so: none and no.
func TestPruneEmpty(t *testing.T) {
	two, six := to(0, 1), to(0, 5)
	for _, empty := range [][]api.Range{nil, {}} {
		checkCases(t, map[string]prunedCase{
			"the index":                {doms(empty, six, six), upTo(3), nil},
			"the result":               {doms(two, empty, six), upTo(3), nil},
			"the one of the list":      {doms(two, six, empty), upTo(3), nil},
			"one that may be told":     {doms(two, six, six, empty), upTo(4), nil},
			"one that is not told":     {doms(of(0), six, six, empty), upTo(4), nil},
			"all":                      {doms(empty, empty, empty), upTo(3), nil},
			"not its, behind":          {doms(two, six, six, empty), upTo(3), nil},
			"not its, ahead":           {doms(empty, two, six, six), []int{1, 2, 3}, nil},
			"not its, between":         {doms(two, six, empty, six), []int{0, 1, 3}, nil},
			"not its, and no solution": {doms(of(1), six, six, empty), upTo(3), nil},
		})
	}
	checkCases(t, map[string]prunedCase{
		"the index would become":  {doms(of(2), six, six, six), upTo(4), nil},
		"the result would become": {doms(two, six, to(6, 9), of(-1)), upTo(4), nil},
		"one of the list would":   {doms(of(1), of(5), six, to(0, 4)), upTo(4), nil},
		"known ones that differ":  {doms(of(0), of(5), of(4)), upTo(3), nil},
	})
}

// P10.1: by Vars alone.
func TestPruneByVarsAlone(t *testing.T) {
	d := doms(to(0, 1), to(0, 2), to(1, 4))
	for kind := range api.ConKinds {
		c := api.Con{Kind: kind, Vars: []int{0, 1, 2}, Coefs: []int{3, -4}, Op: api.Ne, Rhs: 9, Rows: [][]int{{1, 1}}, B: 2}
		if l, ok := Prune(d, c); !ok || !sameDoms(l, doms(of(0), of(1, 2), of(1, 2))) {
			t.Error(kind, l, ok)
		}
	}
}

// P10.1: as many variables as there may be, domains as large as they may be, at both ends of all values.
func TestPruneLarge(t *testing.T) {
	low, high := to(-top, -top+api.MaxSize-1), to(top-api.MaxSize+1, top)
	places := api.MaxVars - 2
	last := places - 1
	wide, both := to(-100, api.MaxSize-101), append(to(-top, -top+2047), to(top-2047, top)...)
	d := append(doms(wide, both), slices.Repeat(doms(low, high), places/2)...)
	want := slices.Clone(d)
	want[0] = to(0, last)
	prunedCase{d, upTo(api.MaxVars), want}.check(t, "all places")

	d[0], want[0], want[1] = of(last, last+1), of(last), to(top-2047, top)
	want[api.MaxVars-1] = want[1]
	prunedCase{d, upTo(api.MaxVars), want}.check(t, "the last place")
	d[0] = of(-1, last+1)
	prunedCase{d, upTo(api.MaxVars), nil}.check(t, "right beside the places")

	d = append(doms(to(0, last), evens(-top, api.MaxSize)), slices.Repeat(doms(evens(-top+1, api.MaxSize)), places)...)
	prunedCase{d, upTo(api.MaxVars), nil}.check(t, "as many ranges as values, none in common")
	d[5] = low
	want = slices.Clone(d)
	want[0], want[1] = of(3), evens(-top, api.MaxSize/2)
	want[5] = want[1]
	prunedCase{d, upTo(api.MaxVars), want}.check(t, "one place that has every other one")
}

// subsets are the domains of all choices of n values from lo on, the empty one first.
func subsets(lo, n int) [][]api.Range {
	var l [][]api.Range
	for bits := range 1 << n {
		var values []int
		for i := range n {
			if bits>>i&1 == 1 {
				values = append(values, lo+i)
			}
		}
		l = append(l, of(values...))
	}
	return l
}

// tuples goes over all lists of n of some things; the list is one, and changes.
func tuples[T any](l []T, n int) func(func([]T) bool) {
	d := make([]T, n)
	var from func(i int, yield func([]T) bool) bool
	from = func(i int, yield func([]T) bool) bool {
		if i == n {
			return yield(d)
		}
		for _, x := range l {
			d[i] = x
			if !from(i+1, yield) {
				return false
			}
		}
		return true
	}
	return func(yield func([]T) bool) { from(0, yield) }
}

// checkSlow holds Prune against going over all values.
func checkSlow(t *testing.T, d [][]api.Range, c api.Con) {
	t.Helper()
	l, ok := Prune(d, c)
	if want, is := slowPrune(d, c); ok != is || !sameDoms(l, want) || !ok && l != nil {
		t.Fatalf("Prune(%v, %v): %v %v, want %v %v", d, c.Vars, l, ok, want, is)
	}
}

// P10.1: all domains of three values, the empty one too, with all indices from -1 to one beyond the list's end.
func TestAgainstAllValues(t *testing.T) {
	three := subsets(-1, 3)
	for n := 1; n <= 3; n++ {
		c := elem(upTo(n + 2)...)
		for _, index := range subsets(-1, n+2) {
			for others := range tuples(three, n+1) {
				checkSlow(t, append(doms(index), others...), c)
			}
		}
	}
}

// P10.1: some of up to seven variables, with more values, apart too.
func TestAgainstSomeValues(t *testing.T) {
	r := dice(13)
	none := 0
	for range 10000 {
		variables := 3 + r.next(5)
		var d [][]api.Range
		for range variables {
			d = append(d, r.domain(4, -2, 5))
		}
		c := elem(r.vars(3+r.next(variables-2), variables)...)
		checkSlow(t, d, c)
		if _, ok := Prune(d, c); !ok {
			none++
		}
	}
	if none < 1000 || none > 9000 {
		t.Error(none)
	}
}

// P10.1: a variable that stands more than once has one value at all its places; model.Con refuses it, but what is supported is plain.
func TestPruneTwice(t *testing.T) {
	two, nine := to(0, 1), to(0, 9)
	for name, x := range map[string]prunedCase{
		"twice in the list":               {doms(two, to(2, 9), to(1, 3)), []int{0, 1, 2, 2}, doms(two, to(2, 3), to(2, 3))},
		"twice in the list, and another":  {doms(to(0, 2), to(2, 9), to(1, 3), of(7)), []int{0, 1, 2, 3, 2}, doms(to(0, 2), of(2, 3, 7), to(1, 3), of(7))},
		"twice, and another that is none": {doms(to(0, 2), to(2, 9), to(1, 3), of(1)), []int{0, 1, 2, 3, 2}, doms(of(0, 2), to(2, 3), to(2, 3), of(1))},
		"twice, and known not to be":      {doms(of(1), to(2, 9), to(1, 3), of(7)), []int{0, 1, 2, 3, 2}, doms(of(1), of(7), to(1, 3), of(7))},
		"the result in the list":          {doms(two, to(2, 9), to(1, 3)), []int{0, 1, 1, 2}, doms(two, to(2, 9), to(1, 3))},
		"the result alone in the list":    {doms(nine, to(2, 9)), []int{0, 1, 1, 1}, doms(two, to(2, 9))},
		"the result, known not to be":     {doms(of(1), to(2, 9), to(1, 3)), []int{0, 1, 1, 2}, doms(of(1), to(2, 3), to(2, 3))},
		"the index in the list":           {doms(two, nine, of(5)), []int{0, 1, 0, 2}, doms(two, of(0, 5), of(5))},
		"the index in the list, alone":    {doms(nine, of(1, 2, 7)), []int{0, 1, 0, 0, 0}, doms(of(1, 2), of(1, 2))},
		"the index in the list, no":       {doms(two, of(1), of(5)), []int{0, 1, 0, 2}, nil},
		"the index is the result":         {doms(nine, to(1, 3), of(0), of(2)), []int{0, 0, 1, 2, 3}, doms(of(2), to(1, 3), of(0), of(2))},
		"the index is the result, one":    {doms(nine, to(-3, 3)), []int{0, 0, 1}, doms(of(0), of(0))},
		"the index is the result, no":     {doms(nine, to(1, 3), of(0)), []int{0, 0, 1, 2}, nil},
		"all are one":                     {doms(to(-1, 9)), []int{0, 0, 0, 0}, doms(two)},
		"all are one, no":                 {doms(to(2, 9)), []int{0, 0, 0, 0}, nil},
	} {
		if e := model.Con(x.d, elem(x.vars...)); e != api.ErrModelForm {
			t.Errorf("%s: model.Con: %d", name, e)
		}
		x.checkAny(t, name)
		x.checkSlowCase(t, name)
	}
}

// P10.1: all ways in which three variables may stand at up to five places, with all domains of some values.
func TestTwiceAgainstAllValues(t *testing.T) {
	domains := doms(of(0), of(1), of(0, 1), of(-1, 2), of(0, 2), of(-1, 0, 1, 2, 3))
	for n := 3; n <= 5; n++ {
		for vars := range tuples(upTo(3), n) {
			for d := range tuples(domains, 3) {
				checkSlow(t, d, elem(vars...))
			}
		}
	}
}

// common are the places of the index whose variable has a value in common with the result, and what they have in common together, value by value.
func common(d [][]api.Range, vars []int) ([]int, []int) {
	var places, values []int
	for place, v := range vars[2:] {
		if !dom.Has(d[vars[0]], place) {
			continue
		}
		before := len(values)
		for _, value := range dom.Values(d[vars[1]]) {
			if dom.Has(d[v], value) {
				values = append(values, value)
			}
		}
		if len(values) > before {
			places = append(places, place)
		}
	}
	return places, values
}

// checkPlaces holds the first sentence of P10.2 of domains that all have a value.
func checkPlaces(t *testing.T, d [][]api.Range, vars []int) {
	t.Helper()
	l, ok := Prune(d, elem(vars...))
	places, values := common(d, vars)
	if ok != (len(places) > 0) {
		t.Fatalf("Prune(%v, %v): %v %v, of places %v", d, vars, l, ok, places)
	}
	if !ok {
		return
	}
	if !dom.Same(l[vars[0]], of(places...)) || !dom.Same(l[vars[1]], of(values...)) {
		t.Fatalf("Prune(%v, %v): %v, of places %v with %v", d, vars, l, places, values)
	}
	for place, v := range vars[2:] {
		want := d[v]
		if slices.Equal(places, []int{place}) {
			want = of(values...)
		}
		if !dom.Same(l[v], want) {
			t.Fatalf("Prune(%v, %v): %v at place %d, of places %v with %v", d, vars, l, place, places, values)
		}
	}
}

// checkFollows holds the rest of P10.2 of domains, and that fewer values leave no more.
func checkFollows(t *testing.T, d [][]api.Range, c api.Con) {
	t.Helper()
	l, ok := Prune(d, c)
	if ok && (len(l) != len(d) || !within(l, d)) {
		t.Fatalf("Prune(%v, %v): %v has more", d, c.Vars, l)
	}
	for a := range solutions(d, c) {
		for _, v := range c.Vars {
			if !ok || !dom.Has(l[v], a[v]) {
				t.Fatalf("Prune(%v, %v): %v, a solution is %v", d, c.Vars, l, a)
			}
		}
	}
	if !ok {
		l = make([][]api.Range, len(d))
	} else if again, ok := Prune(l, c); !ok || !sameDoms(again, l) {
		t.Fatalf("Prune(%v, %v): %v, and again %v %v", d, c.Vars, l, again, ok)
	}
	for i, x := range d {
		for _, v := range dom.Values(x) {
			fewer := slices.Clone(d)
			fewer[i] = dom.Minus(x, of(v))
			if less, _ := Prune(fewer, c); !within(less, l) {
				t.Fatalf("Prune(%v, %v): %v, but of %v: %v", d, c.Vars, l, fewer, less)
			}
		}
	}
}

// P10.2: what stays of the index, the result and the list; no solution's values go; pruned again all stays.
func TestFollows(t *testing.T) {
	three := subsets(0, 3)[1:]
	for n := 1; n <= 2; n++ {
		c := elem(upTo(n + 2)...)
		for _, index := range subsets(-1, n+2)[1:] {
			for others := range tuples(three, n+1) {
				d := append(doms(index), others...)
				checkPlaces(t, d, c.Vars)
				checkFollows(t, d, c)
			}
		}
	}
	r := dice(37)
	for range 2000 {
		var d [][]api.Range
		for range 7 {
			d = append(d, r.domain(4, -2, 4))
		}
		c := elem(r.vars(3+r.next(4), 7)...)
		checkPlaces(t, d, c.Vars)
		checkFollows(t, d, c)
	}
}

// P10.2: likewise of domains with far more values than can be gone over.
func TestFollowsLarge(t *testing.T) {
	r := dice(43)
	for range 300 {
		variables := 3 + r.next(api.MaxVars-2)
		var d [][]api.Range
		for range variables {
			lo := r.next(3000)
			d = append(d, r.domain(200, lo, lo+600))
		}
		vars := r.vars(3+r.next(variables-2), variables)
		d[vars[0]] = r.domain(4, -3, len(vars))
		checkPlaces(t, d, vars)
		if l, ok := Prune(d, elem(vars...)); ok {
			if again, ok := Prune(l, elem(vars...)); !ok || !sameDoms(again, l) {
				t.Fatalf("Prune(%v, %v): %v, and again %v %v", d, vars, l, again, ok)
			}
		}
	}
}

// memoryCases leave all, leave several places, leave one.
func memoryCases() map[string]prunedCase {
	d := doms(to(0, 2), of(0, 1, 3, 4, 5, 8), of(0, 3, 8), of(-3, -1, 3, 5, 7), of(3, 5), of(9, 20), of(1))
	with := func(index, result []api.Range) [][]api.Range { return append(doms(index, result), d[2:]...) }
	left := with(of(0), of(3, 5))
	left[3] = of(3, 5)
	behind := with(of(1), d[1])
	behind[3] = of(3, 5)
	known := slices.Clone(d)
	known[2], known[4] = of(3), of(3)
	twice := slices.Clone(left)
	twice[0] = to(0, 1)
	return map[string]prunedCase{
		"all stays":               {d, []int{0, 2, 1, 3, 4}, d},
		"one place goes":          {d, []int{0, 2, 1, 5, 3}, with(of(0, 2), d[1])},
		"the result loses":        {d, []int{0, 1, 2, 3, 4}, with(to(0, 2), of(0, 3, 5, 8))},
		"the one place":           {d, []int{0, 1, 3}, left},
		"one place of two":        {d, []int{0, 4, 5, 3}, behind},
		"the index has one value": {d, []int{6, 2, 1, 4}, known},
		"twice in the list":       {d, []int{0, 1, 3, 3}, twice},
	}
}

// roomy is a list with room behind it that is somebody else's.
func roomy[T any](l []T, rest T) []T {
	behind := append(slices.Clone(l), rest, rest)
	return behind[:len(l)]
}

// roomyDoms are the same domains, with room behind each, and behind all.
func roomyDoms(d [][]api.Range, rest api.Range) [][]api.Range {
	l := roomy(copyDoms(d), []api.Range{rest})
	for i := range l {
		l[i] = roomy(l[i], rest)
	}
	return l
}

// spoil writes over all that lists have, spare room too.
func spoil(l [][]api.Range, bad api.Range) {
	for _, x := range l[:cap(l)] {
		x = x[:cap(x)]
		for i := range x {
			x[i] = bad
		}
	}
}

// checkRoom holds domains with room behind them against what they were, the room too.
func checkRoom(t *testing.T, name string, d, was [][]api.Range, rest api.Range) {
	t.Helper()
	if !sameDoms(d, was) {
		t.Fatalf("%s: %v, was %v", name, d, was)
	}
	if n := len(d); !slices.Equal(d[:n+1][n], []api.Range{rest}) {
		t.Fatalf("%s: the room behind all has %v", name, d[:n+2])
	}
	for _, x := range d {
		if n := len(x); x[:n+1][n] != rest {
			t.Fatalf("%s: the room behind one has %v", name, x[:n+2])
		}
	}
}

// R4: what is handed in stays as it is, and the room behind it; what is told is its owner's.
func TestMemory(t *testing.T) {
	rest, bad := api.Range{Lo: 90, Hi: 99}, api.Range{Lo: -77, Hi: -77}
	for name, x := range memoryCases() {
		d, vars := roomyDoms(x.d, rest), roomy(x.vars, 2)
		c := api.Con{Kind: api.ConElem, Vars: vars}
		l, ok := Prune(d, c)
		if !ok || !sameDoms(l, x.want) {
			t.Fatalf("%s: %v %v, want %v", name, l, ok, x.want)
		}
		unchanged := func() {
			t.Helper()
			checkRoom(t, name, d, x.d, rest)
			if wasVars := append(slices.Clone(x.vars), 2, 2); !slices.Equal(vars[:len(wasVars)], wasVars) {
				t.Fatalf("%s: %v, was %v", name, vars[:len(wasVars)], wasVars)
			}
		}
		unchanged()
		spoil(l, bad)
		clear(l[:cap(l)])
		unchanged()

		kept, _ := Prune(d, c)
		spoil(d, bad)
		clear(vars)
		if !sameDoms(kept, x.want) {
			t.Errorf("%s: %v became %v", name, x.want, kept)
		}
	}
}

// R4: with none and no, too, what is handed in stays as it is.
func TestMemoryOfNo(t *testing.T) {
	rest := api.Range{Lo: 90, Hi: 99}
	for name, x := range map[string][][]api.Range{
		"no place":          doms(of(-1, 2), to(0, 5), to(1, 3), to(2, 4)),
		"nothing in common": doms(to(0, 1), to(5, 9), to(1, 3), to(2, 4)),
		"an empty one":      doms(to(0, 1), to(0, 5), to(1, 3), nil),
	} {
		d, vars := roomyDoms(x, rest), roomy(upTo(4), 2)
		if l, ok := Prune(d, api.Con{Kind: api.ConElem, Vars: vars}); l != nil || ok {
			t.Errorf("%s: %v %v", name, l, ok)
		}
		checkRoom(t, name, d, x, rest)
		if !slices.Equal(vars[:6], []int{0, 1, 2, 3, 2, 2}) {
			t.Errorf("%s: %v", name, vars[:6])
		}
	}
}

// R4: no two lists of an answer share memory, not even if those that are handed in do.
func TestSharedMemory(t *testing.T) {
	one, index, bad := of(0, 1, 3, 4, 5, 8), to(0, 1), api.Range{Lo: -77, Hi: -77}
	d := doms(one, one, index, one, index, of(1, 3), one)
	for name, vars := range map[string][]int{
		"all stays":         {2, 0, 1, 3},
		"the result loses":  {4, 6, 5, 2},
		"the one place":     {2, 3, 1},
		"one place of some": {2, 5, 6},
		"the index in it":   {2, 4, 0},
		"twice in the list": {4, 1, 5, 5},
	} {
		c := elem(vars...)
		first, ok := Prune(d, c)
		if !ok {
			t.Fatalf("%s: no", name)
		}
		for i := range first {
			l, _ := Prune(d, c)
			was := copyDoms(l)
			spoil(l[i:i+1:i+1], bad)
			was[i] = l[i]
			if !sameDoms(l, was) || !sameDoms(d, doms(one, one, index, one, index, of(1, 3), one)) {
				t.Fatalf("%s: %v, was %v", name, l, was)
			}
		}
	}
	if !dom.Same(one, of(0, 1, 3, 4, 5, 8)) || !dom.Same(index, to(0, 1)) {
		t.Fatal(one, index)
	}
}

// R5: the same call answers the same, whatever was asked between.
func TestOneAnswer(t *testing.T) {
	r := dice(61)
	for range 200 {
		var d [][]api.Range
		for range 6 {
			d = append(d, r.domain(6, -2, 5))
		}
		vars := r.vars(5, 6)
		first, ok := Prune(d, elem(vars...))
		for range 5 {
			Prune(doms(r.domain(3, 0, 3), r.domain(3, 0, 3), r.domain(3, 0, 3)), elem(r.vars(3, 3)...))
			if l, now := Prune(copyDoms(d), elem(slices.Clone(vars)...)); now != ok || !sameDoms(l, first) {
				t.Fatalf("Prune(%v, %v): %v %v, was %v %v", d, vars, l, now, first, ok)
			}
		}
	}
}
