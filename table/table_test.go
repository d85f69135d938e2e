package table

import (
	"slices"
	"testing"

	"secateur/api"
	"secateur/dom"
	"secateur/meaning"
	"secateur/model"
)

const top = 1 << 20 // the greatest value

// of is the domain of some values.
func of(l ...int) []api.Range {
	d, e := dom.Of(l)
	if e != api.OK {
		panic(e)
	}
	return d
}

func to(lo, hi int) []api.Range { return []api.Range{{Lo: lo, Hi: hi}} }

// doms are lists of domains, rows lists of rows, written shorter.
func doms(l ...[]api.Range) [][]api.Range { return l }

func rows(l ...[]int) [][]int { return l }

// tab is the constraint that some variables are one of some rows.
func tab(vars []int, rows [][]int) api.Con {
	return api.Con{Kind: api.ConTab, Vars: vars, Rows: rows}
}

// upTo are the numbers from 0 on, ahead of n.
func upTo(n int) []int {
	l := make([]int, n)
	for i := range l {
		l[i] = i
	}
	return l
}

func sameDoms(a, b [][]api.Range) bool { return slices.EqualFunc(a, b, dom.Same) }

func sameRows(a, b [][]int) bool { return slices.EqualFunc(a, b, slices.Equal[[]int]) }

// copyLists are the same lists in other memory.
func copyLists[T any](l [][]T) [][]T {
	var all [][]T
	for _, x := range l {
		all = append(all, slices.Clone(x))
	}
	return all
}

// within tells whether domains have no value that others have not.
func within(a, b [][]api.Range) bool {
	for i, x := range a {
		if len(dom.Minus(x, b[i])) > 0 {
			return false
		}
	}
	return true
}

// dice are numbers that look like chance, and are the same ones each time.
type dice uint64

func (r *dice) next(n int) int {
	*r = *r*6364136223846793005 + 1442695040888963407
	return int(uint64(*r)>>33) % n
}

// domain are up to n values from lo to hi, at least one.
func (r *dice) domain(n, lo, hi int) []api.Range {
	var l []int
	for range 1 + r.next(n) {
		l = append(l, lo+r.next(hi-lo+1))
	}
	return of(l...)
}

// vars are n of so many variables, all others, in whatever order.
func (r *dice) vars(n, variables int) []int {
	var l []int
	for len(l) < n {
		if v := r.next(variables); !slices.Contains(l, v) {
			l = append(l, v)
		}
	}
	return l
}

// rows are n rows of so many values from lo to hi.
func (r *dice) rows(n, places, lo, hi int) [][]int {
	var l [][]int
	for range n {
		var row []int
		for range places {
			row = append(row, lo+r.next(hi-lo+1))
		}
		l = append(l, row)
	}
	return l
}

// mixed are the same things in another order.
func mixed[T any](r *dice, l []T) []T {
	l = slices.Clone(l)
	for i := range l {
		j := i + r.next(len(l)-i)
		l[i], l[j] = l[j], l[i]
	}
	return l
}

// solutions goes over all values of some variables' domains that are one of the rows; the list is one, and changes.
func solutions(d [][]api.Range, c api.Con) func(func([]int) bool) {
	a := make([]int, len(d))
	var from func(i int, yield func([]int) bool) bool
	from = func(i int, yield func([]int) bool) bool {
		if i == len(c.Vars) {
			return !meaning.Holds(c, a) || yield(a)
		}
		for _, value := range dom.Values(d[c.Vars[i]]) {
			a[c.Vars[i]] = value
			if !from(i+1, yield) {
				return false
			}
		}
		return true
	}
	return func(yield func([]int) bool) { from(0, yield) }
}

// slowPrune prunes by the words of P9.1, going over all values.
func slowPrune(d [][]api.Range, c api.Con) ([][]api.Range, bool) {
	for _, x := range d {
		if len(x) == 0 {
			return nil, false
		}
	}
	supported := make([][]int, len(d))
	for a := range solutions(d, c) {
		for _, v := range c.Vars {
			if !slices.Contains(supported[v], a[v]) {
				supported[v] = append(supported[v], a[v])
			}
		}
	}
	l := copyLists(d)
	for _, v := range c.Vars {
		if len(supported[v]) == 0 {
			return nil, false
		}
		l[v] = of(supported[v]...)
	}
	return l, true
}

// slowRows takes rows away one by one, where a value is none of its domain's values.
func slowRows(d [][]api.Range, c api.Con) [][]int {
	l := slices.Clone(c.Rows)
	for place, v := range c.Vars {
		values := dom.Values(d[v])
		l = slices.DeleteFunc(l, func(row []int) bool { return !slices.Contains(values, row[place]) })
	}
	return l
}

// prunedCase are domains, variables, rows, and what is left of the domains; nil: none and no.
type prunedCase struct {
	d    [][]api.Range
	vars []int
	rows [][]int
	want [][]api.Range
}

// check holds a case against Prune.
func (x prunedCase) check(t *testing.T, name string) {
	t.Helper()
	c := tab(x.vars, x.rows)
	if e := model.Con(x.d, c); e != api.OK {
		t.Fatalf("%s: no constraint: %d", name, e)
	}
	l, ok := Prune(x.d, c)
	if ok != (x.want != nil) || !sameDoms(l, x.want) || !ok && l != nil {
		t.Errorf("%s: Prune(%v, %v, %v): %v %v, want %v", name, x.d, x.vars, x.rows, l, ok, x.want)
	}
}

// checkCases holds cases against Prune, and against the slow way.
func checkCases(t *testing.T, cases map[string]prunedCase) {
	t.Helper()
	for name, x := range cases {
		x.check(t, name)
		if l, ok := slowPrune(x.d, tab(x.vars, x.rows)); ok != (x.want != nil) || !sameDoms(l, x.want) {
			t.Errorf("%s: the slow way says %v %v", name, l, ok)
		}
	}
}

// The chapter's examples.
func TestExamples(t *testing.T) {
	d := doms(to(0, 3), to(0, 3))
	l := rows([]int{0, 1}, []int{2, 5}, []int{3, 3})
	checkCases(t, map[string]prunedCase{
		"the second one is none": {d, []int{0, 1}, l, doms(of(0, 3), of(1, 3))},
	})
	if r := Rows(d, tab([]int{0, 1}, l)); !sameRows(r, rows([]int{0, 1}, []int{3, 3})) {
		t.Error(r)
	}
}

// P9.1: just the supported values stay.
func TestPrune(t *testing.T) {
	four := to(0, 3)
	pairs := rows([]int{0, 1}, []int{1, 0}, []int{2, 2}, []int{3, 7}, []int{9, 3})
	checkCases(t, map[string]prunedCase{
		"variables turned":             {doms(four, to(0, 9)), []int{1, 0}, rows([]int{7, 1}, []int{1, 7}, []int{9, 3}), doms(of(1, 3), of(7, 9))},
		"one value, and more":          {doms(of(1), four), upTo(2), pairs, doms(of(1), of(0))},
		"more, and one value":          {doms(four, of(1)), upTo(2), pairs, doms(of(0), of(1))},
		"one value each":               {doms(of(2), of(2)), upTo(2), pairs, doms(of(2), of(2))},
		"one value each, of no row":    {doms(of(2), of(1)), upTo(2), pairs, nil},
		"one value of no row":          {doms(of(5), four), upTo(2), pairs, nil},
		"values of others than places": {doms(of(0, 1), of(0, 1)), upTo(2), rows([]int{0, 0}, []int{1, 1}), doms(of(0, 1), of(0, 1))},
		"domains with holes":           {doms(of(0, 2, 3), of(1, 2, 5, 7)), upTo(2), pairs, doms(of(0, 2, 3), of(1, 2, 7))},
		"a value in a hole":            {doms(of(1, 3), of(0, 2, 4)), upTo(2), rows([]int{1, 0}, []int{2, 2}, []int{3, 3}), doms(of(1), of(0))},
		"a row beyond each end":        {doms(of(2, 3), to(5, 6)), upTo(2), rows([]int{1, 5}, []int{4, 5}, []int{2, 4}, []int{2, 7}, []int{3, 6}), doms(of(3), of(6))},
		"all stays":                    {doms(of(1, 4), of(2, 9)), upTo(2), rows([]int{1, 2}, []int{4, 9}), doms(of(1, 4), of(2, 9))},
		"ranges become one":            {doms(to(0, 9)), upTo(1), rows([]int{5}, []int{2}, []int{4}, []int{3}, []int{7}), doms(of(2, 3, 4, 5, 7))},
		"a range becomes some":         {doms(to(0, 9), four), upTo(2), rows([]int{9, 0}, []int{0, 0}, []int{4, 0}), doms(of(0, 4, 9), of(0))},
		"below 0":                      {doms(to(-5, -1), to(-5, 5)), upTo(2), rows([]int{-1, -5}, []int{1, 5}, []int{-5, 1}, []int{-6, 1}), doms(of(-5, -1), of(-5, 1))},
		"below 0 is not above":         {doms(of(-3, 3), of(-3, 3)), upTo(2), rows([]int{-3, 3}, []int{3, 3}), doms(of(-3, 3), of(3))},
		"zeros":                        {doms(of(-1, 0, 1), of(0)), upTo(2), rows([]int{0, 0}, []int{1, 1}), doms(of(0), of(0))},
		"three, just one row":          {doms(four, four, four), upTo(3), rows([]int{3, 1, 2}), doms(of(3), of(1), of(2))},
		"three, supported in turn":     {doms(four, four, four), upTo(3), rows([]int{0, 1, 2}, []int{0, 1, 3}, []int{0, 2, 3}, []int{4, 0, 0}), doms(of(0), of(1, 2), of(2, 3))},
		"the last place says no":       {doms(four, four, of(1)), upTo(3), rows([]int{0, 1, 2}, []int{0, 1, 3}), nil},
		"ends of all values":           {doms(of(-top, top), of(-top, 0, top)), upTo(2), rows([]int{-top, top}, []int{top, -top}), doms(of(-top, top), of(-top, top))},
	})
}

// P9.1: no rows, rows that are there twice, rows in another order, rows with a value of no domain.
func TestPruneRows(t *testing.T) {
	d := doms(to(0, 5), to(0, 5))
	want := doms(of(0, 2), of(3, 4))
	checkCases(t, map[string]prunedCase{
		"no rows, nil":            {d, upTo(2), nil, nil},
		"no rows":                 {d, upTo(2), [][]int{}, nil},
		"no rows, of one value":   {doms(of(1)), upTo(1), nil, nil},
		"two rows":                {d, upTo(2), rows([]int{0, 4}, []int{2, 3}), want},
		"the other one first":     {d, upTo(2), rows([]int{2, 3}, []int{0, 4}), want},
		"one twice":               {d, upTo(2), rows([]int{0, 4}, []int{2, 3}, []int{0, 4}), want},
		"one twice, in turn":      {d, upTo(2), rows([]int{2, 3}, []int{2, 3}, []int{0, 4}), want},
		"both twice":              {d, upTo(2), rows([]int{2, 3}, []int{0, 4}, []int{2, 3}, []int{0, 4}), want},
		"the first place is none": {d, upTo(2), rows([]int{0, 4}, []int{6, 1}, []int{2, 3}), want},
		"the last place is none":  {d, upTo(2), rows([]int{0, 4}, []int{1, -1}, []int{2, 3}), want},
		"the first row is none":   {d, upTo(2), rows([]int{1, 6}, []int{0, 4}, []int{2, 3}), want},
		"the last row is none":    {d, upTo(2), rows([]int{0, 4}, []int{2, 3}, []int{-1, 5}), want},
		"one none twice":          {d, upTo(2), rows([]int{6, 1}, []int{6, 1}), nil},
		"all are none":            {d, upTo(2), rows([]int{6, 1}, []int{1, 6}, []int{-1, -1}, []int{-top, top}), nil},
	})
}

// P9.1: of one variable the values of the rows stay.
func TestPruneOneVariable(t *testing.T) {
	for _, x := range [][]api.Range{of(5), of(-5), of(5, 9), to(0, 4), of(-top, top), to(-2, 2), to(top-9, top), to(-top, -top+9)} {
		var all [][]int
		for _, value := range dom.Values(x) {
			all = append(all, []int{value})
		}
		prunedCase{doms(x), []int{0}, all, doms(x)}.check(t, "all of them")
		prunedCase{doms(x, x, x), []int{1}, all[:1], doms(x, of(all[0][0]), x)}.check(t, "one of them, among others")
		prunedCase{doms(x), []int{0}, append(all, []int{77}), doms(x)}.check(t, "all, and another one")
		prunedCase{doms(x), []int{0}, rows([]int{77}), nil}.check(t, "another one")
	}
}

// P9.1: variables of d that are not the constraint's stay as they are, and take nothing away.
func TestPruneOthersStay(t *testing.T) {
	pairs := rows([]int{0, 1}, []int{1, 2}, []int{5, 0})
	checkCases(t, map[string]prunedCase{
		"several values":        {doms(to(0, 2), to(0, 2), to(0, 2)), []int{0, 2}, pairs, doms(of(0, 1), to(0, 2), of(1, 2))},
		"several values, apart": {doms(of(-9, 9), to(0, 2), to(0, 2)), []int{1, 2}, pairs, doms(of(-9, 9), of(0, 1), of(1, 2))},
		"one value":             {doms(of(7), to(0, 2), to(0, 2)), []int{1, 2}, pairs, doms(of(7), of(0, 1), of(1, 2))},
		"one value, at the end": {doms(to(0, 2), to(0, 2), of(-7)), []int{0, 1}, pairs, doms(of(0, 1), of(1, 2), of(-7))},
		"turned":                {doms(to(0, 2), of(4), to(0, 2)), []int{2, 0}, pairs, doms(of(1, 2), of(4), of(0, 1))},
		"ahead and behind":      {doms(of(3), to(0, 9), to(4, 6), to(0, 9), of(3)), []int{3, 1}, pairs, doms(of(3), of(0, 1, 2), to(4, 6), of(0, 1, 5), of(3))},
		"no, whatever they are": {doms(to(0, 9), of(3), to(0, 9)), []int{1, 0}, pairs, nil},
	})
}

// P9.1: a domain that is empty, the constraint's or not, or that would become so: none and no.
func TestPruneEmpty(t *testing.T) {
	six := to(0, 5)
	pair, three := rows([]int{1, 2}, []int{2, 1}), rows([]int{1, 2, 3})
	for _, empty := range [][]api.Range{nil, {}} {
		checkCases(t, map[string]prunedCase{
			"alone":            {doms(empty), []int{0}, rows([]int{0}), nil},
			"alone, no rows":   {doms(empty), []int{0}, nil, nil},
			"the first one":    {doms(empty, six), upTo(2), pair, nil},
			"the last one":     {doms(six, empty), upTo(2), pair, nil},
			"the middle one":   {doms(six, empty, six), upTo(3), three, nil},
			"not its, behind":  {doms(six, six, empty), []int{0, 1}, pair, nil},
			"not its, ahead":   {doms(empty, six, six), []int{1, 2}, pair, nil},
			"not its, between": {doms(six, empty, six), []int{2, 0}, pair, nil},
			"two":              {doms(empty, empty), upTo(2), pair, nil},
			"and no row":       {doms(six, six, empty), []int{0, 1}, nil, nil},
		})
	}
	checkCases(t, map[string]prunedCase{
		"both places, of other rows":  {doms(of(1), of(1)), upTo(2), pair, nil},
		"the first one would become":  {doms(of(7), six), upTo(2), pair, nil},
		"the last one would become":   {doms(six, of(7)), upTo(2), pair, nil},
		"one of three would become":   {doms(six, of(3), six), upTo(3), three, nil},
		"apart each place would stay": {doms(of(1), of(2), of(5)), upTo(3), rows([]int{1, 2, 3}, []int{1, 0, 5}, []int{0, 2, 5}), nil},
	})
}

// P9.1: by Vars and Rows alone.
func TestPruneByVarsAndRowsAlone(t *testing.T) {
	d := doms(of(1), to(0, 2), of(0, 1))
	for kind := range api.ConKinds {
		c := api.Con{Kind: kind, Vars: []int{1, 0}, Coefs: []int{3, -4}, Op: api.Ne, Rhs: 9, Rows: rows([]int{0, 1}, []int{2, 1}, []int{1, 0}), B: 2}
		if l, ok := Prune(d, c); !ok || !sameDoms(l, doms(of(1), of(0, 2), of(0, 1))) {
			t.Error(kind, l, ok)
		}
	}
}

// P9.1: the rows whose values all are in their variables' domains, in order.
func TestRows(t *testing.T) {
	six := to(0, 5)
	all := rows([]int{3, 1}, []int{0, 4}, []int{3, 1}, []int{-1, 2}, []int{2, 6}, []int{5, 5}, []int{0, 0})
	for name, x := range map[string]struct {
		d    [][]api.Range
		vars []int
		rows [][]int
		want [][]int
	}{
		"in order, twice too":       {doms(six, six), upTo(2), all, rows([]int{3, 1}, []int{0, 4}, []int{3, 1}, []int{5, 5}, []int{0, 0})},
		"all of them":               {doms(to(-1, 5), to(0, 6)), upTo(2), all, all},
		"variables turned":          {doms(of(1, 4), of(0, 3)), []int{1, 0}, all, rows([]int{3, 1}, []int{0, 4}, []int{3, 1})},
		"one value":                 {doms(of(0), six), upTo(2), all, rows([]int{0, 4}, []int{0, 0})},
		"one value below 0":         {doms(of(-1), six), upTo(2), all, rows([]int{-1, 2})},
		"a hole":                    {doms(of(0, 2, 5), of(0, 1, 6)), upTo(2), all, rows([]int{2, 6}, []int{0, 0})},
		"none":                      {doms(of(4), six), upTo(2), all, nil},
		"none, by the last place":   {doms(six, of(3)), upTo(2), all, nil},
		"no rows":                   {doms(six), upTo(1), nil, nil},
		"no rows, empty":            {doms(six), upTo(1), [][]int{}, nil},
		"one variable":              {doms(six), upTo(1), rows([]int{7}, []int{5}, []int{0}, []int{-1}, []int{5}), rows([]int{5}, []int{0}, []int{5})},
		"another one's values":      {doms(of(9), six, of(-9), six), []int{3, 1}, all, rows([]int{3, 1}, []int{0, 4}, []int{3, 1}, []int{5, 5}, []int{0, 0})},
		"its own is empty":          {doms(six, nil), upTo(2), all, nil},
		"its own is empty, first":   {doms([]api.Range{}, six), upTo(2), all, nil},
		"another one is empty":      {doms(nil, six, six), []int{1, 2}, all[4:], rows([]int{5, 5}, []int{0, 0})},
		"another one is empty, too": {doms(six, []api.Range{}, six), []int{2, 0}, all[:2], all[:2]},
		"ends of all values":        {doms(of(-top, top), of(top)), upTo(2), rows([]int{-top, top}, []int{top, -top}, []int{top, top}), rows([]int{-top, top}, []int{top, top})},
	} {
		c := tab(x.vars, x.rows)
		if e := model.Con(x.d, c); e != api.OK {
			t.Fatalf("%s: no constraint: %d", name, e)
		}
		if l := Rows(x.d, c); !sameRows(l, x.want) {
			t.Errorf("%s: Rows(%v, %v, %v): %v, want %v", name, x.d, x.vars, x.rows, l, x.want)
		}
		if l := slowRows(x.d, c); !sameRows(l, x.want) {
			t.Errorf("%s: the slow way says %v", name, l)
		}
	}
}

// subsets are the domains of all choices of n values from lo on, the empty one first.
func subsets(lo, n int) [][]api.Range {
	var l [][]api.Range
	for bits := range 1 << n {
		var values []int
		for i := range n {
			if bits>>i&1 == 1 {
				values = append(values, lo+i)
			}
		}
		l = append(l, of(values...))
	}
	return l
}

// tuples goes over all lists of n of some things; the list is one, and changes.
func tuples[T any](l []T, n int) func(func([]T) bool) {
	d := make([]T, n)
	var from func(i int, yield func([]T) bool) bool
	from = func(i int, yield func([]T) bool) bool {
		if i == n {
			return yield(d)
		}
		for _, x := range l {
			d[i] = x
			if !from(i+1, yield) {
				return false
			}
		}
		return true
	}
	return func(yield func([]T) bool) { from(0, yield) }
}

// checkSlow holds Prune and Rows against going over all values.
func checkSlow(t *testing.T, d [][]api.Range, c api.Con) {
	t.Helper()
	l, ok := Prune(d, c)
	if want, is := slowPrune(d, c); ok != is || !sameDoms(l, want) || !ok && l != nil {
		t.Fatalf("Prune(%v, %v, %v): %v %v, want %v %v", d, c.Vars, c.Rows, l, ok, want, is)
	}
	if r, want := Rows(d, c), slowRows(d, c); !sameRows(r, want) {
		t.Fatalf("Rows(%v, %v, %v): %v, want %v", d, c.Vars, c.Rows, r, want)
	}
}

// P9.1: all domains of four values, the empty one too, of up to three variables, with rows of each length.
func TestAgainstAllValues(t *testing.T) {
	r := dice(7)
	four := subsets(-2, 4)
	for n := 1; n <= 3; n++ {
		for _, count := range []int{0, 1, 2, 4, 9} {
			l := r.rows(count, n, -2, 2)
			for d := range tuples(four, n) {
				checkSlow(t, d, tab(upTo(n), l))
			}
		}
	}
}

// P9.1: all sets of rows of two variables with three values, one of them of neither domain.
func TestAgainstAllRows(t *testing.T) {
	three := subsets(0, 3)
	for bits := range 1 << 9 {
		var l [][]int
		for row := range 9 {
			if bits>>row&1 == 1 {
				l = append(l, []int{row / 3, row % 3})
			}
		}
		for d := range tuples(three, 2) {
			checkSlow(t, d, tab(upTo(2), l))
		}
	}
}

// P9.1: some of up to six variables, with more values, apart too.
func TestAgainstSomeValues(t *testing.T) {
	r := dice(11)
	none := 0
	for range 10000 {
		variables := 1 + r.next(6)
		var d [][]api.Range
		for range variables {
			d = append(d, r.domain(4, -3, 3))
		}
		vars := r.vars(1+r.next(variables), variables)
		c := tab(vars, r.rows(r.next(20), len(vars), -3, 3))
		checkSlow(t, d, c)
		if _, ok := Prune(d, c); !ok {
			none++
		}
	}
	if none < 1000 || none > 9000 {
		t.Error(none)
	}
}

// P9.1: as many variables and rows as there may be, domains as large as they may be, at both ends of all values.
func TestPruneLarge(t *testing.T) {
	low, high := to(-top, -top+api.MaxSize-1), to(top-api.MaxSize+1, top)
	var d, want [][]api.Range
	for range api.MaxVars / 2 {
		d = append(d, low, high)
		want = append(want, to(-top, -top+api.MaxRows-1), to(top-api.MaxRows+1, top))
	}
	var l [][]int
	for i := range api.MaxRows {
		var row []int
		for range api.MaxVars / 2 {
			row = append(row, -top+i, top-i)
		}
		l = append(l, row)
	}
	prunedCase{d, upTo(api.MaxVars), l, want}.check(t, "all rows")
	if r := Rows(d, tab(upTo(api.MaxVars), l)); !sameRows(r, l) {
		t.Error(len(r))
	}
	d[api.MaxVars-1] = of(top - 5)
	for i := range want {
		want[i] = of(l[5][i])
	}
	prunedCase{d, upTo(api.MaxVars), l, want}.check(t, "the last place leaves one")
	d[api.MaxVars-1] = of(top - api.MaxSize + 1)
	prunedCase{d, upTo(api.MaxVars), l, nil}.check(t, "the last place leaves none")

	var evens []int
	for i := range api.MaxSize {
		evens = append(evens, -top+2*i)
	}
	var apart [][]int
	for i := range api.MaxRows {
		apart = append(apart, []int{-top + 7*i})
	}
	var left []int
	for i := range api.MaxRows / 2 {
		left = append(left, -top+14*i)
	}
	prunedCase{doms(of(evens...)), upTo(1), apart, doms(of(left...))}.check(t, "as many ranges as values")
}

// P9.2: the lists, those ahead first, each once.
func TestSorted(t *testing.T) {
	for name, x := range map[string]struct{ l, want [][]int }{
		"no lists":                    {nil, nil},
		"no lists, empty":             {[][]int{}, nil},
		"one":                         {rows([]int{4, 2}), rows([]int{4, 2})},
		"an empty one":                {rows([]int{}), rows([]int{})},
		"empty ones":                  {rows(nil, []int{}, nil), rows(nil)},
		"an empty one first":          {rows([]int{-5}, []int{}, []int{0}), rows([]int{}, []int{-5}, []int{0})},
		"in order":                    {rows([]int{1}, []int{2}, []int{3}), rows([]int{1}, []int{2}, []int{3})},
		"from behind":                 {rows([]int{3}, []int{2}, []int{1}), rows([]int{1}, []int{2}, []int{3})},
		"below 0":                     {rows([]int{1}, []int{0}, []int{-1}, []int{-2}), rows([]int{-2}, []int{-1}, []int{0}, []int{1})},
		"the first place first":       {rows([]int{2, 0}, []int{1, 9}), rows([]int{1, 9}, []int{2, 0})},
		"the second place then":       {rows([]int{1, 9}, []int{1, -9}, []int{1, 0}), rows([]int{1, -9}, []int{1, 0}, []int{1, 9})},
		"the last place then":         {rows([]int{1, 2, 3}, []int{1, 2, 2}), rows([]int{1, 2, 2}, []int{1, 2, 3})},
		"one begins another one":      {rows([]int{1, -5}, []int{1}), rows([]int{1}, []int{1, -5})},
		"one begins some":             {rows([]int{1, 0, 0}, []int{1, 0}, []int{1}, []int{0, 9}), rows([]int{0, 9}, []int{1}, []int{1, 0}, []int{1, 0, 0})},
		"longer, but ahead":           {rows([]int{2}, []int{1, 5, 7}, []int{1, 6}), rows([]int{1, 5, 7}, []int{1, 6}, []int{2})},
		"zeros of many lengths":       {rows([]int{0, 0}, []int{}, []int{0, 0, 0}, []int{0}), rows([]int{}, []int{0}, []int{0, 0}, []int{0, 0, 0})},
		"twice":                       {rows([]int{1, 2}, []int{1, 2}), rows([]int{1, 2})},
		"twice, apart":                {rows([]int{1, 2}, []int{0}, []int{1, 2}, []int{3}, []int{0}), rows([]int{0}, []int{1, 2}, []int{3})},
		"almost twice":                {rows([]int{1, 2}, []int{1, 2, 0}, []int{1, 2}, []int{1, -2}), rows([]int{1, -2}, []int{1, 2}, []int{1, 2, 0})},
		"values of any size":          {rows([]int{1 << 62}, []int{-1 << 63}, []int{1<<63 - 1}, []int{top}), rows([]int{-1 << 63}, []int{top}, []int{1 << 62}, []int{1<<63 - 1})},
		"further apart than a number": {rows([]int{1<<63 - 1, 0}, []int{-1 << 63, 1}, []int{-1 << 63, 0}), rows([]int{-1 << 63, 0}, []int{-1 << 63, 1}, []int{1<<63 - 1, 0})},
	} {
		if l := Sorted(x.l); !sameRows(l, x.want) {
			t.Errorf("%s: Sorted(%v): %v, want %v", name, x.l, l, x.want)
		}
	}
}

// checkSorted holds what P9.2 says of lists: each stands ahead of the next, none is missing, none is new.
func checkSorted(t *testing.T, l [][]int) {
	t.Helper()
	s := Sorted(l)
	for i, x := range s {
		if i > 0 && !meaning.Ahead(s[i-1], x) {
			t.Fatalf("Sorted(%v): %v, at %d", l, s, i)
		}
		if !slices.ContainsFunc(l, func(y []int) bool { return slices.Equal(x, y) }) {
			t.Fatalf("Sorted(%v): %v, %v is new", l, s, x)
		}
	}
	for _, x := range l {
		if !slices.ContainsFunc(s, func(y []int) bool { return slices.Equal(x, y) }) {
			t.Fatalf("Sorted(%v): %v, without %v", l, s, x)
		}
	}
}

// P9.2: all choices of four lists of up to two values, and some with many more.
func TestSortedByAhead(t *testing.T) {
	few := rows(nil, []int{-1}, []int{0}, []int{-1, -1}, []int{-1, 0}, []int{0, -1}, []int{0, 0})
	for n := range 5 {
		for l := range tuples(few, n) {
			checkSorted(t, l)
		}
	}
	r := dice(23)
	for range 300 {
		var l [][]int
		for places := range 5 {
			l = append(l, r.rows(r.next(40), places, -2, 2)...)
		}
		checkSorted(t, mixed(&r, l))
	}
	many := r.rows(2*api.MaxRows, api.MaxVars, -1, 1)
	many = append(many, many[:api.MaxRows]...)
	checkSorted(t, many)
	if s := Sorted(many); len(s) != 2*api.MaxRows {
		t.Error(len(s))
	}
}

// checkFollows holds P9.3 of domains and rows, and that fewer values leave no more.
func checkFollows(t *testing.T, d [][]api.Range, c api.Con) {
	t.Helper()
	l, ok := Prune(d, c)
	if ok && (len(l) != len(d) || !within(l, d)) {
		t.Fatalf("Prune(%v, %v, %v): %v has more", d, c.Vars, c.Rows, l)
	}
	for a := range solutions(d, c) {
		for _, v := range c.Vars {
			if !ok || !dom.Has(l[v], a[v]) {
				t.Fatalf("Prune(%v, %v, %v): %v, a solution is %v", d, c.Vars, c.Rows, l, a)
			}
		}
	}
	if !ok {
		l = make([][]api.Range, len(d))
	} else if again, ok := Prune(l, c); !ok || !sameDoms(again, l) || !sameRows(Rows(l, c), Rows(d, c)) {
		t.Fatalf("Prune(%v, %v, %v): %v, and again %v %v", d, c.Vars, c.Rows, l, again, ok)
	}
	for i, x := range d {
		for _, v := range dom.Values(x) {
			fewer := slices.Clone(d)
			fewer[i] = dom.Minus(x, of(v))
			if less, _ := Prune(fewer, c); !within(less, l) {
				t.Fatalf("Prune(%v, %v, %v): %v, but of %v: %v", d, c.Vars, c.Rows, l, fewer, less)
			}
		}
	}
}

// P9.3: no solution's values go, and pruned again all stays.
func TestFollows(t *testing.T) {
	r := dice(31)
	four := subsets(-1, 4)[1:]
	for n := 1; n <= 3; n++ {
		for _, count := range []int{1, 3, 8} {
			c := tab(upTo(n), r.rows(count, n, -1, 2))
			for d := range tuples(four, n) {
				checkFollows(t, d, c)
			}
		}
	}
	for range 2000 {
		var d [][]api.Range
		for range 6 {
			d = append(d, r.domain(4, -3, 3))
		}
		vars := r.vars(1+r.next(6), 6)
		checkFollows(t, d, tab(vars, r.rows(r.next(30), len(vars), -3, 3)))
	}
}

// P9.3: a row that is there twice, or in another order, makes no difference; nor do rows that are sorted.
func TestFollowsRowsTwice(t *testing.T) {
	r := dice(41)
	left := 0
	for range 3000 {
		var d [][]api.Range
		for range 4 {
			d = append(d, r.domain(5, -3, 3))
		}
		vars := r.vars(1+r.next(4), 4)
		l := r.rows(1+r.next(12), len(vars), -3, 3)
		want, ok := Prune(d, tab(vars, l))
		if ok {
			left++
		}
		twice := append(slices.Clone(l), l[r.next(len(l))], l[r.next(len(l))])
		for _, other := range [][][]int{mixed(&r, l), mixed(&r, twice), twice, append(l, l...), Sorted(l)} {
			if now, is := Prune(d, tab(vars, other)); is != ok || !sameDoms(now, want) {
				t.Fatalf("Prune(%v, %v, %v): %v %v, but of %v: %v %v", d, vars, l, want, ok, other, now, is)
			}
			if !sameRows(Sorted(Rows(d, tab(vars, other))), Sorted(Rows(d, tab(vars, l)))) {
				t.Fatalf("Rows of %v, %v, %v and %v differ", d, vars, l, other)
			}
		}
	}
	if left < 300 || left > 2700 {
		t.Error(left)
	}
}

// memoryCases leave all, take from the ends, from the middle, of several variables.
func memoryCases() map[string]prunedCase {
	d := doms(of(0, 1, 3, 4, 5, 8), of(3), of(-3, -1, 3, 7), of(0, 8))
	return map[string]prunedCase{
		"all stays":       {d, []int{3, 1}, rows([]int{0, 3}, []int{8, 3}), d},
		"one variable":    {d, []int{3}, rows([]int{0}), doms(d[0], d[1], d[2], of(0))},
		"out of a middle": {d, []int{0}, rows([]int{8}, []int{4}, []int{0}), doms(of(0, 4, 8), d[1], d[2], d[3])},
		"of two":          {d, []int{2, 0}, rows([]int{7, 3}, []int{6, 6}, []int{-3, 4}), doms(of(3, 4), d[1], of(-3, 7), d[3])},
		"of all":          {d, []int{1, 0, 3, 2}, rows([]int{3, 5, 8, -1}, []int{3, 5, 0, 3}), doms(of(5), d[1], of(-1, 3), of(0, 8))},
	}
}

// roomy is a list with room behind it that is somebody else's.
func roomy[T any](l []T, rest T) []T {
	behind := append(slices.Clone(l), rest, rest)
	return behind[:len(l)]
}

// roomyLists are the same lists, with room behind each, and behind all.
func roomyLists[T any](l [][]T, rest T) [][]T {
	l = roomy(copyLists(l), []T{rest})
	for i := range l {
		l[i] = roomy(l[i], rest)
	}
	return l
}

// spoil writes over all that lists have, spare room too.
func spoil[T any](l [][]T, bad T) {
	for _, x := range l[:cap(l)] {
		x = x[:cap(x)]
		for i := range x {
			x[i] = bad
		}
	}
}

// checkRoom holds lists with room behind them against what they were, the room too.
func checkRoom[T comparable](t *testing.T, name string, l, was [][]T, rest T) {
	t.Helper()
	if !slices.EqualFunc(l, was, slices.Equal[[]T]) {
		t.Fatalf("%s: %v, was %v", name, l, was)
	}
	if n := len(l); !slices.Equal(l[:n+1][n], []T{rest}) {
		t.Fatalf("%s: the room behind all has %v", name, l[:n+2])
	}
	for _, x := range l {
		if n := len(x); x[:n+1][n] != rest {
			t.Fatalf("%s: the room behind one has %v", name, x[:n+2])
		}
	}
}

// R4: what is handed in stays as it is, and the room behind it; what is told is its owner's.
func TestMemory(t *testing.T) {
	rest, bad := api.Range{Lo: 90, Hi: 99}, api.Range{Lo: -77, Hi: -77}
	for name, x := range memoryCases() {
		d, vars, r := roomyLists(x.d, rest), roomy(x.vars, 2), roomyLists(x.rows, 2)
		c := tab(vars, r)
		l, ok := Prune(d, c)
		told := Rows(d, c)
		want := slowRows(x.d, tab(x.vars, x.rows))
		if !ok || !sameDoms(l, x.want) || !sameRows(told, want) {
			t.Fatalf("%s: %v %v %v, want %v %v", name, l, ok, told, x.want, want)
		}
		unchanged := func() {
			t.Helper()
			checkRoom(t, name, d, x.d, rest)
			checkRoom(t, name, r, x.rows, 2)
			if wasVars := append(slices.Clone(x.vars), 2, 2); !slices.Equal(vars[:len(wasVars)], wasVars) {
				t.Fatalf("%s: %v, was %v", name, vars[:len(wasVars)], wasVars)
			}
		}
		unchanged()
		spoil(l, bad)
		spoil(told, 55)
		unchanged()

		kept, _ := Prune(d, c)
		told = Rows(d, c)
		spoil(d, bad)
		spoil(r, 55)
		clear(vars)
		if !sameDoms(kept, x.want) || !sameRows(told, want) {
			t.Errorf("%s: %v and %v became %v and %v", name, x.want, want, kept, told)
		}
	}
}

// R4: Sorted leaves the lists, their order and the room behind them as they are; what it tells is its owner's.
func TestSortedMemory(t *testing.T) {
	for name, l := range map[string][][]int{
		"from behind": rows([]int{3, 3}, []int{2}, []int{1, 0, 0}),
		"in order":    rows([]int{1, 0}, []int{2}),
		"twice":       rows([]int{5}, []int{4, 1}, []int{5}, []int{4, 1}, []int{}, []int{4}, []int{}),
		"one":         rows([]int{7, 7}),
		"empty ones":  rows([]int{}, []int{}),
	} {
		was := copyLists(l)
		given := roomyLists(l, 2)
		s := Sorted(given)
		want := copyLists(s)
		checkRoom(t, name, given, was, 2)
		for _, x := range s {
			_ = append(x, 44)
		}
		_ = append(s, []int{44})
		spoil(s, 55)
		clear(s[:cap(s)])
		checkRoom(t, name, given, was, 2)
		s = Sorted(given)
		spoil(given, 66)
		clear(given)
		if !sameRows(s, want) {
			t.Errorf("%s: %v became %v", name, want, s)
		}
	}
}

// checkApart writes over each of an answer's lists, spare room too: the others must stay.
func checkApart[T comparable](t *testing.T, name string, bad T, answer func() [][]T) {
	t.Helper()
	for i, want := range answer() {
		l := answer()
		was := copyLists(l)
		if !slices.Equal(l[i], want) {
			t.Fatalf("%s: %v, and again %v", name, want, l[i])
		}
		spoil(l[i:i+1:i+1], bad)
		was[i] = l[i]
		if !slices.EqualFunc(l, was, slices.Equal[[]T]) {
			t.Fatalf("%s: %v, was %v", name, l, was)
		}
	}
}

// R4: no two lists of an answer share memory, not even if those that are handed in do.
func TestSharedMemory(t *testing.T) {
	one, bad := of(0, 1, 3, 4, 5, 8), api.Range{Lo: -77, Hi: -77}
	d := doms(one, one, of(3), one, one)
	row := []int{3, 3, 8}
	l := rows(row, row, []int{8, 8, 3}, row)
	for name, vars := range map[string][]int{"in order": {0, 1, 3}, "turned": {4, 3, 0}, "some of them": {3, 1, 0}} {
		c := tab(vars, l)
		checkApart(t, name, bad, func() [][]api.Range { p, _ := Prune(d, c); return p })
		checkApart(t, name, 55, func() [][]int { return Rows(d, c) })
		if r := Rows(d, c); !sameRows(r, l) {
			t.Errorf("%s: %v", name, r)
		}
	}
	begun := []int{1, 2, 3, 4}
	checkApart(t, "begun", 55, func() [][]int { return Sorted(rows(begun, begun[:3], begun[:1], begun[1:2], begun[:0], begun)) })
	if !sameDoms(d, doms(one, one, of(3), one, one)) || !dom.Same(one, of(0, 1, 3, 4, 5, 8)) || !slices.Equal(row, []int{3, 3, 8}) || !slices.Equal(begun, []int{1, 2, 3, 4}) {
		t.Fatal(d, row, begun)
	}
}

// R5: the same call answers the same, whatever was asked between.
func TestOneAnswer(t *testing.T) {
	r := dice(59)
	for range 100 {
		var d [][]api.Range
		for range 5 {
			d = append(d, r.domain(8, -4, 4))
		}
		vars := r.vars(3, 5)
		l := r.rows(30, 3, -4, 4)
		first, ok := Prune(d, tab(vars, l))
		told, sorted := Rows(d, tab(vars, l)), Sorted(l)
		for range 5 {
			other := doms(r.domain(3, 0, 3), r.domain(3, 0, 3))
			otherRows := r.rows(9, 2, 0, 3)
			Prune(other, tab([]int{1, 0}, otherRows))
			Rows(other, tab([]int{0, 1}, otherRows))
			Sorted(otherRows)
			c := tab(slices.Clone(vars), copyLists(l))
			if p, now := Prune(copyLists(d), c); now != ok || !sameDoms(p, first) {
				t.Fatalf("Prune(%v, %v, %v): %v %v, was %v %v", d, vars, l, p, now, first, ok)
			}
			if !sameRows(Rows(copyLists(d), c), told) || !sameRows(Sorted(c.Rows), sorted) {
				t.Fatalf("Rows or Sorted of %v, %v, %v", d, vars, l)
			}
		}
	}
}
