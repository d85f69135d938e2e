package unlike

import (
	"slices"
	"testing"

	"secateur/api"
	"secateur/dom"
	"secateur/model"
)

const top = 1 << 20 // the greatest value

// of is the domain of some values.
func of(l ...int) []api.Range {
	d, e := dom.Of(l)
	if e != api.OK {
		panic(e)
	}
	return d
}

func to(lo, hi int) []api.Range { return []api.Range{{Lo: lo, Hi: hi}} }

// doms are lists of domains, written shorter.
func doms(l ...[]api.Range) [][]api.Range { return l }

// all is the constraint that some variables are all others.
func all(vars ...int) api.Con { return api.Con{Kind: api.ConAll, Vars: vars} }

// upTo are the numbers from 0 on, ahead of n.
func upTo(n int) []int {
	l := make([]int, n)
	for i := range l {
		l[i] = i
	}
	return l
}

// evens are n values, each 2 above the one ahead.
func evens(lo, n int) []api.Range {
	var l []int
	for i := range n {
		l = append(l, lo+2*i)
	}
	return of(l...)
}

func sameDoms(a, b [][]api.Range) bool { return slices.EqualFunc(a, b, dom.Same) }

// copyDoms are the same domains in other memory.
func copyDoms(d [][]api.Range) [][]api.Range {
	l := make([][]api.Range, len(d))
	for i, x := range d {
		l[i] = slices.Clone(x)
	}
	return l
}

// within tells whether domains have no value that others have not.
func within(a, b [][]api.Range) bool {
	for i, x := range a {
		if len(dom.Minus(x, b[i])) > 0 {
			return false
		}
	}
	return true
}

// dice are numbers that look like chance, and are the same ones each time.
type dice uint64

func (r *dice) next(n int) int {
	*r = *r*6364136223846793005 + 1442695040888963407
	return int(uint64(*r)>>33) % n
}

// domain are up to n values from lo to hi, at least one.
func (r *dice) domain(n, lo, hi int) []api.Range {
	var l []int
	for range 1 + r.next(n) {
		l = append(l, lo+r.next(hi-lo+1))
	}
	return of(l...)
}

// vars are n of so many variables, all others, in whatever order.
func (r *dice) vars(n, variables int) []int {
	var l []int
	for len(l) < n {
		if v := r.next(variables); !slices.Contains(l, v) {
			l = append(l, v)
		}
	}
	return l
}

// areOthers tells whether values are, by holding each two against each other.
func areOthers(a []int) bool {
	for i, v := range a {
		if slices.Contains(a[:i], v) {
			return false
		}
	}
	return true
}

// solutions goes over all values of some variables' domains that are all others; the list is one, and changes.
func solutions(d [][]api.Range, vars []int) func(func([]int) bool) {
	a := make([]int, len(vars))
	var from func(i int, yield func([]int) bool) bool
	from = func(i int, yield func([]int) bool) bool {
		if i == len(vars) {
			return !areOthers(a) || yield(a)
		}
		for _, v := range dom.Values(d[vars[i]]) {
			a[i] = v
			if !from(i+1, yield) {
				return false
			}
		}
		return true
	}
	return func(yield func([]int) bool) { from(0, yield) }
}

// slowPrune prunes by the words of P8.1, going over all values.
func slowPrune(d [][]api.Range, vars []int) ([][]api.Range, bool) {
	for _, x := range d {
		if len(x) == 0 {
			return nil, false
		}
	}
	supported := make([][]int, len(vars))
	for a := range solutions(d, vars) {
		for i, v := range a {
			if !slices.Contains(supported[i], v) {
				supported[i] = append(supported[i], v)
			}
		}
	}
	l := copyDoms(d)
	for i, v := range vars {
		if len(supported[i]) == 0 {
			return nil, false
		}
		l[v] = of(supported[i]...)
	}
	return l, true
}

// slowMatch tells whether there are values of the variables' domains that are all others.
func slowMatch(d [][]api.Range, vars []int) bool {
	for range solutions(d, vars) {
		return true
	}
	return false
}

// prunedCase are domains, variables, and what is left of the domains; nil: none and no.
type prunedCase struct {
	d    [][]api.Range
	vars []int
	want [][]api.Range
}

// check holds a case against Prune and Match.
func (x prunedCase) check(t *testing.T, name string) {
	t.Helper()
	if e := model.Con(x.d, all(x.vars...)); e != api.OK {
		t.Fatalf("%s: no constraint: %d", name, e)
	}
	l, ok := Prune(x.d, all(x.vars...))
	if ok != (x.want != nil) || !sameDoms(l, x.want) || !ok && l != nil {
		t.Errorf("%s: Prune(%v, %v): %v %v, want %v", name, x.d, x.vars, l, ok, x.want)
	}
	checkMatch(t, name, x.d, x.vars)
	if _, is := Match(x.d, x.vars); ok && !is {
		t.Errorf("%s: Match(%v, %v): no", name, x.d, x.vars)
	}
}

// checkCases holds cases against Prune and Match, and against the slow way.
func checkCases(t *testing.T, cases map[string]prunedCase) {
	t.Helper()
	for name, x := range cases {
		x.check(t, name)
		if l, ok := slowPrune(x.d, x.vars); ok != (x.want != nil) || !sameDoms(l, x.want) {
			t.Errorf("%s: the slow way says %v %v", name, l, ok)
		}
	}
}

// checkMatch holds what P8.2 says of values, if there are any: one of each domain, in order, all others, the same ones again.
func checkMatch(t *testing.T, name string, d [][]api.Range, vars []int) {
	t.Helper()
	a, ok := Match(d, vars)
	if again, is := Match(d, vars); !slices.Equal(again, a) || is != ok {
		t.Errorf("%s: Match(%v, %v): %v %v, and again %v %v", name, d, vars, a, ok, again, is)
	}
	if !ok {
		if a != nil {
			t.Errorf("%s: Match(%v, %v): %v and no", name, d, vars, a)
		}
		return
	}
	if len(a) != len(vars) || !areOthers(a) {
		t.Errorf("%s: Match(%v, %v): %v", name, d, vars, a)
		return
	}
	for i, v := range vars {
		if !dom.Has(d[v], a[i]) {
			t.Errorf("%s: Match(%v, %v): %v, %d is not of place %d", name, d, vars, a, a[i], i)
		}
	}
}

// The chapter's examples.
func TestExamples(t *testing.T) {
	two := to(0, 1)
	checkCases(t, map[string]prunedCase{
		"two of two, and one": {doms(two, two, to(0, 3)), upTo(3), doms(two, two, to(2, 3))},
		"three of two":        {doms(two, two, two), upTo(3), nil},
	})
}

// P8.1: just the supported values stay.
func TestPrune(t *testing.T) {
	two, three := to(0, 1), to(0, 2)
	checkCases(t, map[string]prunedCase{
		"one value, and more":       {doms(of(1), to(0, 2)), upTo(2), doms(of(1), of(0, 2))},
		"more, and one value":       {doms(to(0, 2), of(1)), upTo(2), doms(of(0, 2), of(1))},
		"one value, at the end":     {doms(of(0), to(0, 2)), upTo(2), doms(of(0), to(1, 2))},
		"one value, of neither":     {doms(of(3), to(0, 2)), upTo(2), doms(of(3), to(0, 2))},
		"one value, in a hole":      {doms(of(3), of(1, 2, 4, 5)), upTo(2), doms(of(3), of(1, 2, 4, 5))},
		"the same value twice":      {doms(of(3), of(3)), upTo(2), nil},
		"one goes on to the next":   {doms(of(1), of(1, 2), of(2, 3)), upTo(3), doms(of(1), of(2), of(3))},
		"from behind":               {doms(of(2, 3), of(1, 2), of(1)), upTo(3), doms(of(3), of(2), of(1))},
		"variables turned":          {doms(of(1), of(1, 2), of(2, 3)), []int{2, 1, 0}, doms(of(1), of(2), of(3))},
		"on to none":                {doms(of(1), of(1, 2), of(2)), upTo(3), nil},
		"a ring":                    {doms(of(1, 2), of(2, 3), of(1, 3)), upTo(3), doms(of(1, 2), of(2, 3), of(1, 3))},
		"a ring, and one":           {doms(of(1, 2), of(2, 3), of(1, 3), of(1, 2, 3, 7)), upTo(4), doms(of(1, 2), of(2, 3), of(1, 3), of(7))},
		"one, and a ring":           {doms(of(1, 2, 3, 7), of(1, 2), of(2, 3), of(1, 3)), upTo(4), doms(of(7), of(1, 2), of(2, 3), of(1, 3))},
		"two rings":                 {doms(two, of(5, 6), two, of(5, 6), to(0, 9)), upTo(5), doms(two, of(5, 6), two, of(5, 6), of(2, 3, 4, 7, 8, 9))},
		"a ring that feeds another": {doms(two, two, of(0, 2, 3), of(2, 3)), upTo(4), doms(two, two, of(2, 3), of(2, 3))},
		"rings in turn":             {doms(two, two, of(1, 2, 3), of(2, 3), of(3, 4), of(0, 4, 5)), upTo(6), doms(two, two, of(2, 3), of(2, 3), of(4), of(5))},
		"a way out of the ring":     {doms(two, of(0, 1, 2), to(0, 3)), upTo(3), doms(two, of(0, 1, 2), to(0, 3))},
		"just one free value":       {doms(three, three), upTo(2), doms(three, three)},
		"free values alone":         {doms(two, of(2, 3), of(4, 5)), upTo(3), doms(two, of(2, 3), of(4, 5))},
		"a free value behind a way": {doms(of(0, 1), of(1, 2), of(2, 3, 4)), upTo(3), doms(of(0, 1), of(1, 2), of(2, 3, 4))},
		"taken from both ends":      {doms(of(-1), of(4), to(-1, 4)), upTo(3), doms(of(-1), of(4), to(0, 3))},
		"taken from the middle":     {doms(of(2), of(4), to(1, 6)), upTo(3), doms(of(2), of(4), of(1, 3, 5, 6))},
		"a whole range goes":        {doms(of(4, 5), of(4, 5), of(1, 2, 4, 5, 8, 9)), upTo(3), doms(of(4, 5), of(4, 5), of(1, 2, 8, 9))},
		"below 0":                   {doms(of(-3, -2), of(-3, -2), to(-4, 1)), upTo(3), doms(of(-3, -2), of(-3, -2), of(-4, -1, 0, 1))},
		"below 0 and above":         {doms(of(-1, 1), of(-1, 1), to(-1, 1)), upTo(3), doms(of(-1, 1), of(-1, 1), of(0))},
		"three of two, among four":  {doms(two, two, two, to(0, 9)), upTo(4), nil},
		"apart by ends":             {doms(of(-top, top), of(-top, top), of(-top, 0, top)), upTo(3), doms(of(-top, top), of(-top, top), of(0))},
	})
}

// P8.1: one variable keeps all.
func TestPruneOneVariable(t *testing.T) {
	for _, x := range [][]api.Range{of(5), of(-5), of(5, 9), to(0, 4), of(0), of(-top, top), to(-2, 2), to(top-4095, top)} {
		prunedCase{doms(x), []int{0}, doms(x)}.check(t, "alone")
		prunedCase{doms(x, x, x), []int{1}, doms(x, x, x)}.check(t, "among others")
	}
}

// P8.1: as many variables as values, one more, one less; as many as a model has, and many more.
func TestPruneAsManyAsValues(t *testing.T) {
	for _, n := range []int{1, 2, 3, 7, 63, api.MaxVars, 300} {
		for _, x := range [][]api.Range{to(0, n-1), to(-n, -1), evens(-n, n), evens(top-2*n+2, n)} {
			d := slices.Repeat(doms(x), n)
			prunedCase{d, upTo(n), d}.check(t, "as many")
			if n > 1 {
				prunedCase{d, upTo(n - 1), d}.check(t, "one less")
			}
			d = slices.Repeat(doms(x), n+1)
			prunedCase{d, upTo(n + 1), nil}.check(t, "one more")
			prunedCase{d, upTo(n), d}.check(t, "one more, which is not the constraint's")
		}
	}
}

// P8.1: variables of d that are not the constraint's stay as they are, and take nothing away.
func TestPruneOthersStay(t *testing.T) {
	two := to(0, 1)
	checkCases(t, map[string]prunedCase{
		"several values":        {doms(two, two, two), []int{0, 2}, doms(two, two, two)},
		"one value":             {doms(of(0), two, to(0, 2)), []int{1, 2}, doms(of(0), two, to(0, 2))},
		"one value, at the end": {doms(of(1), to(0, 2), of(2)), []int{0, 1}, doms(of(1), of(0, 2), of(2))},
		"the same one value":    {doms(of(1), of(1), to(0, 2)), []int{2, 1}, doms(of(1), of(1), of(0, 2))},
		"between":               {doms(of(1), to(-9, 9), to(0, 2), of(1)), []int{2, 0}, doms(of(1), to(-9, 9), of(0, 2), of(1))},
		"in another order":      {doms(of(1, 2), of(7), of(2, 3), of(2)), []int{3, 0, 2}, doms(of(1), of(7), of(3), of(2))},
		"one of the constraint": {doms(to(0, 2), of(1), of(0)), []int{0}, doms(to(0, 2), of(1), of(0))},
		"no, whatever they are": {doms(of(1), to(0, 9), of(1)), []int{0, 2}, nil},
	})
}

// P8.1: a domain that is empty, the constraint's or not, or that would become so: none and no.
func TestPruneEmpty(t *testing.T) {
	for _, empty := range [][]api.Range{nil, {}} {
		checkCases(t, map[string]prunedCase{
			"alone":               {doms(empty), []int{0}, nil},
			"the first one":       {doms(empty, to(0, 5)), upTo(2), nil},
			"the last one":        {doms(to(0, 5), empty), upTo(2), nil},
			"the middle one":      {doms(to(0, 5), empty, to(0, 5)), upTo(3), nil},
			"not its, behind":     {doms(of(5), empty), []int{0}, nil},
			"not its, ahead":      {doms(empty, of(5), to(1, 9)), []int{1, 2}, nil},
			"two":                 {doms(empty, empty), upTo(2), nil},
			"and too few as well": {doms(of(1), of(1), empty), upTo(2), nil},
		})
	}
	checkCases(t, map[string]prunedCase{
		"two known ones":            {doms(to(0, 5), of(4), of(4)), upTo(3), nil},
		"the last one would become": {doms(of(1, 2), of(1, 2), of(3), of(1, 2, 3)), upTo(4), nil},
		"the first one would":       {doms(of(1, 2, 3), of(1, 2), of(3), of(1, 2)), upTo(4), nil},
	})
}

// P8.1: by Vars alone.
func TestPruneByVarsAlone(t *testing.T) {
	d := doms(of(1), to(0, 2), of(0, 1))
	for kind := range api.ConKinds {
		c := api.Con{Kind: kind, Vars: []int{0, 1}, Coefs: []int{3, -4}, Op: api.Ne, Rhs: 9, Rows: [][]int{{1, 1}}, B: 2}
		if l, ok := Prune(d, c); !ok || !sameDoms(l, doms(of(1), of(0, 2), of(0, 1))) {
			t.Error(kind, l, ok)
		}
	}
}

// P8.1, P8.2: domains as large as they may be, at both ends of all values.
func TestPruneLarge(t *testing.T) {
	low, high := to(-top, -top+api.MaxSize-1), to(top-api.MaxSize+1, top)
	half := api.MaxVars / 2
	d := slices.Concat(slices.Repeat(doms(to(-top, -top+half-1)), half), slices.Repeat(doms(low), half))
	want := slices.Concat(d[:half], slices.Repeat(doms(to(-top+half, -top+api.MaxSize-1)), half))
	prunedCase{d, upTo(2 * half), want}.check(t, "half of the lowest")

	d = slices.Concat(slices.Repeat(doms(high), half), slices.Repeat(doms(to(top-half+1, top)), half))
	want = slices.Concat(slices.Repeat(doms(to(top-api.MaxSize+1, top-half)), half), d[half:])
	prunedCase{d, upTo(2 * half), want}.check(t, "half of the highest")

	apart := evens(-top, api.MaxSize)
	d = slices.Repeat(doms(apart), api.MaxVars)
	prunedCase{d, upTo(api.MaxVars), d}.check(t, "as many ranges as values")

	d = doms(apart, of(-top), of(-top+2*api.MaxSize-2), to(-top, -top+1))
	want = doms(of(dom.Values(apart)[1:api.MaxSize-1]...), d[1], d[2], of(-top+1))
	prunedCase{d, upTo(4), want}.check(t, "both ends go")
}

// chain are domains of which each has its own number and the next one.
func chain(n int) [][]api.Range {
	var d [][]api.Range
	for i := range n {
		d = append(d, to(i, i+1))
	}
	return d
}

// P8.1, P8.2: long ways of who may take whose value: all are pushed on by the last one, or by the first one.
func TestPruneLongWays(t *testing.T) {
	for _, n := range []int{1, 2, 5, api.MaxVars - 1, 2000} {
		var up, down [][]api.Range
		for i := range n {
			up, down = append(up, of(i+1)), append(down, of(i))
		}
		prunedCase{chain(n), upTo(n), chain(n)}.check(t, "none pushes")
		prunedCase{append(chain(n), of(0)), upTo(n + 1), append(up, of(0))}.check(t, "the last one pushes up")
		prunedCase{append(chain(n), of(n)), upTo(n + 1), append(down, of(n))}.check(t, "the last one pushes down")
		prunedCase{append(chain(n), of(0), of(n)), upTo(n + 2), nil}.check(t, "both")

		turned := append(chain(n), of(0))
		slices.Reverse(turned)
		want := append(slices.Clone(up), of(0))
		slices.Reverse(want)
		prunedCase{turned, upTo(n + 1), want}.check(t, "turned")

		ring := append(chain(n), of(0, n))
		prunedCase{ring, upTo(n + 1), ring}.check(t, "round and round")
		prunedCase{append(ring, of(0, n, n+1)), upTo(n + 2), append(slices.Clone(ring), of(n+1))}.check(t, "a ring pushes one")
	}
}

// subsets are the domains of all choices of n values from lo on, the empty one first.
func subsets(lo, n int) [][]api.Range {
	var l [][]api.Range
	for bits := range 1 << n {
		var values []int
		for i := range n {
			if bits>>i&1 == 1 {
				values = append(values, lo+i)
			}
		}
		l = append(l, of(values...))
	}
	return l
}

// tuples goes over all lists of n of some domains; the list is one, and changes.
func tuples(l [][]api.Range, n int) func(func([][]api.Range) bool) {
	d := make([][]api.Range, n)
	var from func(i int, yield func([][]api.Range) bool) bool
	from = func(i int, yield func([][]api.Range) bool) bool {
		if i == n {
			return yield(d)
		}
		for _, x := range l {
			d[i] = x
			if !from(i+1, yield) {
				return false
			}
		}
		return true
	}
	return func(yield func([][]api.Range) bool) { from(0, yield) }
}

// checkSlow holds Prune and Match against going over all values.
func checkSlow(t *testing.T, d [][]api.Range, vars []int) {
	t.Helper()
	l, ok := Prune(d, all(vars...))
	if want, is := slowPrune(d, vars); ok != is || !sameDoms(l, want) {
		t.Fatalf("Prune(%v, %v): %v %v, want %v %v", d, vars, l, ok, want, is)
	}
	checkMatch(t, "some", d, vars)
	if _, ok := Match(d, vars); ok != slowMatch(d, vars) {
		t.Fatalf("Match(%v, %v): %v", d, vars, ok)
	}
}

// P8.1, P8.2: all domains of four values, the empty one too, of up to three variables; of four of them all that have a value.
func TestAgainstAllValues(t *testing.T) {
	four := subsets(-2, 4)
	for n := 1; n <= 3; n++ {
		for d := range tuples(four, n) {
			checkSlow(t, d, upTo(n))
		}
	}
	for d := range tuples(four[1:], 4) {
		checkSlow(t, d, upTo(4))
	}
}

// P8.1, P8.2: some of up to seven variables, with more values, apart too.
func TestAgainstSomeValues(t *testing.T) {
	r := dice(7)
	none := 0
	for range 20000 {
		variables := 1 + r.next(7)
		var d [][]api.Range
		hi := 1 + r.next(7)
		for range variables {
			d = append(d, r.domain(4, -2, hi))
		}
		vars := r.vars(1+r.next(variables), variables)
		checkSlow(t, d, vars)
		if !slowMatch(d, vars) {
			none++
		}
	}
	if none < 1000 || none > 19000 {
		t.Error(none)
	}
}

// P8.2: values of the variables' domains, in their order; no if there are none.
func TestMatch(t *testing.T) {
	two := to(0, 1)
	for name, x := range map[string]struct {
		d    [][]api.Range
		vars []int
		want []int
	}{
		"one value":                {doms(of(5)), []int{0}, []int{5}},
		"one value below 0":        {doms(of(-top)), []int{0}, []int{-top}},
		"in the variables' order":  {doms(of(1, 2), of(9), of(1)), []int{0, 2}, []int{2, 1}},
		"in another order":         {doms(of(1, 2), of(9), of(1)), []int{2, 1, 0}, []int{1, 9, 2}},
		"one goes on":              {doms(of(0, 1), of(1, 2), of(2, 3), of(0)), upTo(4), []int{1, 2, 3, 0}},
		"others without a value":   {doms(nil, of(4), []api.Range{}, of(3, 4)), []int{3, 1}, []int{3, 4}},
		"others with the same one": {doms(of(3), of(3), of(4)), []int{2, 0}, []int{4, 3}},
		"the same one":             {doms(of(1), of(1)), upTo(2), nil},
		"three of two":             {doms(two, two, two), upTo(3), nil},
		"three of two, among four": {doms(two, of(7), two, two), []int{0, 2, 1, 3}, nil},
		"one without a value":      {doms(nil), []int{0}, nil},
		"the last one without":     {doms(to(0, 5), []api.Range{}), upTo(2), nil},
		"the first one without":    {doms(nil, to(0, 5)), upTo(2), nil},
	} {
		a, ok := Match(x.d, x.vars)
		if ok != (x.want != nil) || !slices.Equal(a, x.want) || !ok && a != nil {
			t.Errorf("%s: Match(%v, %v): %v %v, want %v", name, x.d, x.vars, a, ok, x.want)
		}
	}
	for _, none := range [][]int{nil, {}} {
		if a, ok := Match(doms(of(1)), none); len(a) != 0 || !ok {
			t.Errorf("Match of no variables: %v %v", a, ok)
		}
	}
}

// P8.1, P8.2: of more variables than all values can be gone over: a value stays just if Match finds others beside it.
func TestPruneByMatch(t *testing.T) {
	r := dice(23)
	went, none := 0, 0
	for range 400 {
		variables := 8 + r.next(12)
		var d [][]api.Range
		for range variables {
			d = append(d, r.domain(2+r.next(5), 0, variables+r.next(3)))
		}
		vars := r.vars(variables-r.next(3), variables)
		l, ok := Prune(d, all(vars...))
		if !ok {
			none++
			l = make([][]api.Range, variables)
		}
		for i, x := range d {
			for _, value := range dom.Values(x) {
				fixed := slices.Clone(d)
				fixed[i] = of(value)
				_, stays := Match(fixed, vars)
				if !stays {
					went++
				}
				if ok && stays != dom.Has(l[i], value) || !ok && stays {
					t.Fatalf("Prune(%v, %v): %v %v, of %d and %d: %v", d, vars, l, ok, i, value, stays)
				}
			}
		}
	}
	if went < 100 || none < 10 || none > 390 {
		t.Error(went, none)
	}
}

// checkFollows holds P8.3 of domains and variables, and that fewer values leave no more.
func checkFollows(t *testing.T, d [][]api.Range, vars []int) {
	t.Helper()
	l, ok := Prune(d, all(vars...))
	if _, is := Match(d, vars); is != ok {
		t.Fatalf("Prune(%v, %v): %v, Match: %v", d, vars, ok, is)
	}
	if ok && (len(l) != len(d) || !within(l, d)) {
		t.Fatalf("Prune(%v, %v): %v has more", d, vars, l)
	}
	for a := range solutions(d, vars) {
		for i, v := range vars {
			if !ok || !dom.Has(l[v], a[i]) {
				t.Fatalf("Prune(%v, %v): %v, a solution is %v", d, vars, l, a)
			}
		}
	}
	if !ok {
		l = make([][]api.Range, len(d))
	} else if again, ok := Prune(l, all(vars...)); !ok || !sameDoms(again, l) {
		t.Fatalf("Prune(%v, %v): %v, and again %v %v", d, vars, l, again, ok)
	}
	for i, x := range d {
		for _, v := range dom.Values(x) {
			fewer := slices.Clone(d)
			fewer[i] = dom.Minus(x, of(v))
			if less, _ := Prune(fewer, all(vars...)); !within(less, l) {
				t.Fatalf("Prune(%v, %v): %v, but of %v: %v", d, vars, l, fewer, less)
			}
		}
	}
}

// P8.3: no solution's values go, pruned again all stays, and of domains with values Match says no just where Prune does.
func TestFollows(t *testing.T) {
	four := subsets(-1, 4)[1:]
	for n := 1; n <= 3; n++ {
		for d := range tuples(four, n) {
			checkFollows(t, d, upTo(n))
		}
	}
	r := dice(31)
	for range 4000 {
		var d [][]api.Range
		for range 6 {
			d = append(d, r.domain(4, -3, 3+r.next(3)))
		}
		checkFollows(t, d, r.vars(1+r.next(6), 6))
	}
}

// P8.3: also of many variables with many values.
func TestFollowsLarge(t *testing.T) {
	r := dice(47)
	for range 60 {
		var d [][]api.Range
		for range api.MaxVars {
			d = append(d, r.domain(1+r.next(12), 0, 66))
		}
		vars := r.vars(20+r.next(45), api.MaxVars)
		l, ok := Prune(d, all(vars...))
		checkMatch(t, "large", d, vars)
		if _, is := Match(d, vars); is != ok {
			t.Fatalf("Prune(%v, %v): %v, Match: %v", d, vars, ok, is)
		}
		if !ok {
			continue
		}
		if again, ok := Prune(l, all(vars...)); !ok || !within(l, d) || !sameDoms(again, l) {
			t.Fatalf("Prune(%v, %v): %v, and again %v %v", d, vars, l, again, ok)
		}
	}
}

// memoryCases leave all, take from the ends, from the middle, of several variables.
func memoryCases() map[string]prunedCase {
	d := doms(of(0, 1, 3, 4, 5, 8), of(3), of(-3, -1, 3, 7), of(0, 8))
	return map[string]prunedCase{
		"all stays":       {d, []int{0, 3}, d},
		"one variable":    {d, []int{2}, d},
		"out of a middle": {d, []int{1, 0}, doms(of(0, 1, 4, 5, 8), d[1], d[2], d[3])},
		"of two":          {d, []int{2, 1, 0}, doms(of(0, 1, 4, 5, 8), d[1], of(-3, -1, 7), d[3])},
		"both ends": {
			doms(of(0, 1, 3, 4, 5, 8), of(0, 8), of(-3, 0, 5), of(0, 8)), upTo(4),
			doms(of(1, 3, 4, 5), of(0, 8), of(-3, 5), of(0, 8)),
		},
	}
}

// roomy is a list with room behind it that is somebody else's.
func roomy[T any](l []T, rest T) []T {
	behind := append(slices.Clone(l), rest, rest)
	return behind[:len(l)]
}

// spoil writes over all that a list of domains has, spare room too.
func spoil(l [][]api.Range) {
	for _, x := range l {
		x = x[:cap(x)]
		for i := range x {
			x[i] = api.Range{Lo: -77, Hi: -77}
		}
	}
}

// checkRoom holds domains and variables against what they were, the room behind them too.
func checkRoom(t *testing.T, name string, d, was [][]api.Range, vars, wasVars []int) {
	t.Helper()
	if !sameDoms(d, was) || !slices.Equal(vars, wasVars) {
		t.Fatalf("%s: %v %v, was %v %v", name, d, vars, was, wasVars)
	}
	if n := len(d); !dom.Same(d[:n+1][n], to(-5, 5)) {
		t.Fatalf("%s: the room behind all domains has %v", name, d[:n+2])
	}
	for _, x := range d {
		if n := len(x); x[:n+1][n] != (api.Range{Lo: 90, Hi: 99}) {
			t.Fatalf("%s: the room behind a domain has %v", name, x[:n+2])
		}
	}
	if n := len(vars); vars[:n+1][n] != 2 {
		t.Fatalf("%s: the room behind the variables has %v", name, vars[:n+2])
	}
}

// R4: what is handed in stays as it is, and the room behind it; what is told is its owner's.
func TestMemory(t *testing.T) {
	for name, x := range memoryCases() {
		d := roomy(copyDoms(x.d), to(-5, 5))
		for i := range d {
			d[i] = roomy(d[i], api.Range{Lo: 90, Hi: 99})
		}
		vars := roomy(x.vars, 2)
		l, ok := Prune(d, all(vars...))
		if !ok || !sameDoms(l, x.want) {
			t.Fatalf("%s: %v %v, want %v", name, l, ok, x.want)
		}
		a, is := Match(d, vars)
		if !is {
			t.Fatalf("%s: %v", name, is)
		}
		checkRoom(t, name, d, x.d, vars, x.vars)
		spoil(l[:cap(l)])
		for i := range a[:cap(a)] {
			a[:cap(a)][i] = 55
		}
		checkRoom(t, name+", spoilt", d, x.d, vars, x.vars)
		kept, _ := Prune(d, api.Con{Kind: api.ConAll, Vars: vars})
		values, _ := Match(d, vars)
		was := slices.Clone(values)
		spoil(d)
		clear(vars)
		if !sameDoms(kept, x.want) || !slices.Equal(values, was) {
			t.Errorf("%s: %v and %v became %v and %v", name, x.want, was, kept, values)
		}
	}
}

// R4: no two domains of an answer share memory, not even if those that are handed in do.
func TestSharedMemory(t *testing.T) {
	one := of(0, 1, 3, 4, 5, 8)
	d := doms(one, one, of(3), one, one)
	for name, x := range map[string]prunedCase{
		"all shared":  {d, []int{0, 1, 2, 3}, nil},
		"some shared": {d, []int{1, 2}, nil},
		"one":         {d, []int{0}, nil},
	} {
		l, ok := Prune(x.d, all(x.vars...))
		for i := range l {
			was := copyDoms(l)
			spoil(l[i : i+1])
			was[i] = l[i]
			if !ok || !sameDoms(l, was) {
				t.Fatalf("%s: %v, was %v", name, l, was)
			}
			l, _ = Prune(x.d, all(x.vars...))
		}
	}
	if !sameDoms(d, doms(one, one, of(3), one, one)) || !dom.Same(one, of(0, 1, 3, 4, 5, 8)) {
		t.Fatal(d)
	}
}

// R5: the same call answers the same, whatever was asked between.
func TestOneAnswer(t *testing.T) {
	r := dice(59)
	for range 40 {
		var d [][]api.Range
		for range 12 {
			d = append(d, r.domain(8, -4, 14))
		}
		vars := r.vars(10, 12)
		first, ok := Prune(d, all(vars...))
		a, is := Match(d, vars)
		for range 10 {
			other := doms(r.domain(3, 0, 3), r.domain(3, 0, 3))
			Prune(other, all(0, 1))
			Match(other, []int{1, 0})
			if l, now := Prune(copyDoms(d), all(vars...)); now != ok || !sameDoms(l, first) {
				t.Fatalf("Prune(%v, %v): %v %v, was %v %v", d, vars, l, now, first, ok)
			}
			if b, now := Match(copyDoms(d), slices.Clone(vars)); now != is || !slices.Equal(a, b) {
				t.Fatalf("Match(%v, %v): %v %v, was %v %v", d, vars, b, now, a, is)
			}
		}
	}
}
