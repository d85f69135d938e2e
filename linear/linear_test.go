package linear

import (
	"math/big"
	"reflect"
	"slices"
	"testing"

	"secateur/api"
	"secateur/dom"
	"secateur/model"
)

const (
	top  = 1 << 20 // the greatest value
	most = 1 << 62 // the greatest number that a sum comes to
)

// of is the domain of some values.
func of(l ...int) []api.Range {
	d, e := dom.Of(l)
	if e != api.OK {
		panic(e)
	}
	return d
}

func to(lo, hi int) []api.Range { return []api.Range{{Lo: lo, Hi: hi}} }

// doms are lists of domains, written shorter.
func doms(l ...[]api.Range) [][]api.Range { return l }

// lin is a sum over the variables from 0 on.
func lin(op, rhs int, coefs ...int) api.Con {
	c := api.Con{Kind: api.ConLin, Coefs: coefs, Op: op, Rhs: rhs}
	for i := range coefs {
		c.Vars = append(c.Vars, i)
	}
	return c
}

// over is a sum over other variables than those from 0 on.
func over(c api.Con, vars ...int) api.Con {
	c.Vars = vars
	return c
}

func sameDoms(a, b [][]api.Range) bool { return slices.EqualFunc(a, b, dom.Same) }

// copyDoms are the same domains in other memory.
func copyDoms(d [][]api.Range) [][]api.Range {
	l := make([][]api.Range, len(d))
	for i, x := range d {
		l[i] = slices.Clone(x)
	}
	return l
}

// dice are numbers that look like chance, and are the same ones each time.
type dice uint64

func (r *dice) next(n int) int {
	*r = *r*6364136223846793005 + 1442695040888963407
	return int(uint64(*r)>>33) % n
}

func (r *dice) of(l ...int) int { return l[r.next(len(l))] }

// domain are up to n values from lo to hi, at least one.
func (r *dice) domain(n, lo, hi int) []api.Range {
	var l []int
	for range 1 + r.next(n) {
		l = append(l, lo+r.next(hi-lo+1))
	}
	return of(l...)
}

// sum is one of n of so many variables, with the numbers that are handed in.
func (r *dice) sum(n, variables int, numbers ...int) api.Con {
	c := api.Con{Op: r.next(api.Ops)}
	for len(c.Vars) < n {
		if v := r.next(variables); !slices.Contains(c.Vars, v) {
			c.Vars = append(c.Vars, v)
			c.Coefs = append(c.Coefs, r.of(numbers...))
		}
	}
	return c
}

func wide(n int) *big.Int { return big.NewInt(int64(n)) }

// product is k v, as of numbers without bounds.
func product(k, v int) *big.Int { return new(big.Int).Mul(wide(k), wide(v)) }

// slowEnds are a sum's ends by the words of the chapter, without the term at the place that is left out.
func slowEnds(d [][]int, c api.Con, without int) (*big.Int, *big.Int) {
	lower, higher := new(big.Int), new(big.Int)
	for i, v := range c.Vars {
		if i == without {
			continue
		}
		a, b := slices.Min(d[v]), slices.Max(d[v])
		if c.Coefs[i] <= 0 {
			a, b = b, a
		}
		lower.Add(lower, product(c.Coefs[i], a))
		higher.Add(higher, product(c.Coefs[i], b))
	}
	return lower, higher
}

// slowAtMost prunes by the words of P7.2 for Le, of all variables at once; false: one has no value left.
func slowAtMost(d [][]int, c api.Con) ([][]int, bool) {
	l := slices.Clone(d)
	for i, v := range c.Vars {
		others, _ := slowEnds(d, c, i)
		room := new(big.Int).Sub(wide(c.Rhs), others)
		l[v] = nil
		for _, x := range d[v] {
			if product(c.Coefs[i], x).Cmp(room) <= 0 {
				l[v] = append(l[v], x)
			}
		}
		if len(l[v]) == 0 {
			return nil, false
		}
	}
	return l, true
}

// slowEqual prunes by the words of P7.2 for Eq.
func slowEqual(d [][]int, c api.Con) ([][]int, bool) {
	other := lin(c.Op, -c.Rhs)
	other.Vars = c.Vars
	for _, k := range c.Coefs {
		other.Coefs = append(other.Coefs, -1*k)
	}
	for {
		once, ok := slowAtMost(d, c)
		if !ok {
			return nil, false
		}
		twice, ok := slowAtMost(once, other)
		if !ok {
			return nil, false
		}
		if reflect.DeepEqual(twice, d) {
			return d, true
		}
		d = twice
	}
}

// slowOther prunes by the words of P7.2 for Ne.
func slowOther(d [][]int, c api.Con) ([][]int, bool) {
	open := -1
	for i, v := range c.Vars {
		if len(d[v]) > 1 && open >= 0 {
			return d, true
		}
		if len(d[v]) > 1 {
			open = i
		}
	}
	known, _ := slowEnds(d, c, open)
	if open < 0 {
		return d, known.Cmp(wide(c.Rhs)) != 0
	}
	l := slices.Clone(d)
	v := c.Vars[open]
	l[v] = slices.DeleteFunc(slices.Clone(d[v]), func(x int) bool {
		return new(big.Int).Add(known, product(c.Coefs[open], x)).Cmp(wide(c.Rhs)) == 0
	})
	return l, true
}

// slowPrune prunes by the words of P7.2, value by value, in numbers without bounds.
func slowPrune(d [][]api.Range, c api.Con) ([][]api.Range, bool) {
	var l [][]int
	for _, x := range d {
		if len(x) == 0 {
			return nil, false
		}
		l = append(l, dom.Values(x))
	}
	var ok bool
	switch c.Op {
	case api.Le:
		l, ok = slowAtMost(l, c)
	case api.Eq:
		l, ok = slowEqual(l, c)
	case api.Ne:
		l, ok = slowOther(l, c)
	}
	if !ok {
		return nil, false
	}
	var left [][]api.Range
	for _, x := range l {
		left = append(left, of(x...))
	}
	return left, true
}

// slowKnown tells by the words of P7.3, in numbers without bounds.
func slowKnown(d [][]api.Range, c api.Con) (bool, bool) {
	l := make([][]int, len(d))
	for _, v := range c.Vars {
		l[v] = dom.Values(d[v])
		if len(l[v]) == 0 {
			return false, false
		}
	}
	lower, higher := slowEnds(l, c, -1)
	lo, hi := lower.Cmp(wide(c.Rhs)), higher.Cmp(wide(c.Rhs))
	both, outside := lo == 0 && hi == 0, lo > 0 || hi < 0
	switch c.Op {
	case api.Le:
		return hi <= 0, hi <= 0 || lo > 0
	case api.Eq:
		return both, both || outside
	}
	return outside, both || outside
}

// checkPruned holds a pruner's answer against what is wanted: no domains are none and no.
func checkPruned(t *testing.T, name string, d [][]api.Range, c api.Con, want [][]api.Range) {
	t.Helper()
	l, ok := Prune(d, c)
	if ok != (want != nil) || !sameDoms(l, want) {
		t.Errorf("%s: Prune(%v, %v): %v %v, want %v", name, d, c, l, ok, want)
	}
}

// prunedCase are domains, a sum, and what is left of them; nil: none and no.
type prunedCase struct {
	d    [][]api.Range
	c    api.Con
	want [][]api.Range
}

// checkPrunes holds cases against Prune, and against the slow way.
func checkPrunes(t *testing.T, cases map[string]prunedCase) {
	t.Helper()
	for name, x := range cases {
		checkPruned(t, name, x.d, x.c, x.want)
		if l, ok := slowPrune(x.d, x.c); ok != (x.want != nil) || !sameDoms(l, x.want) {
			t.Errorf("%s: the slow way says %v %v", name, l, ok)
		}
	}
}

// The chapter's examples.
func TestExamples(t *testing.T) {
	checkPrunes(t, map[string]prunedCase{
		"2 x + y at most 4": {doms(to(0, 5), to(0, 5)), lin(api.Le, 4, 2, 1), doms(to(0, 2), to(0, 4))},
		"3 x - 2 y = 0":     {doms(to(1, 5), to(1, 5)), lin(api.Eq, 0, 3, -2), doms(of(2), of(3))},
	})
}

// P7.1: the ends of sums.
func TestEnds(t *testing.T) {
	d := doms(to(0, 3), to(-1, 1), nil, of(-5, 2, 9), of(7), []api.Range{})
	for _, x := range []struct {
		vars, coefs []int
		lo, hi      int
		ok          bool
	}{
		{[]int{0}, []int{1}, 0, 3, true},
		{[]int{0}, []int{-1}, -3, 0, true},
		{[]int{1}, []int{5}, -5, 5, true},
		{[]int{1}, []int{-5}, -5, 5, true},
		{[]int{3}, []int{2}, -10, 18, true},
		{[]int{3}, []int{-2}, -18, 10, true},
		{[]int{4}, []int{3}, 21, 21, true},
		{[]int{4}, []int{-3}, -21, -21, true},
		{[]int{0, 1}, []int{2, -3}, -3, 9, true},
		{[]int{1, 0}, []int{2, -3}, -11, 2, true},
		{[]int{4, 3, 1, 0}, []int{-1, 1, -1, 1}, -13, 6, true},
		{[]int{2}, []int{1}, 0, 0, false},
		{[]int{5}, []int{1}, 0, 0, false},
		{[]int{0, 2}, []int{2, -3}, 0, 0, false},
		{[]int{2, 0}, []int{2, -3}, 0, 0, false},
		{[]int{4, 5, 0}, []int{2, -3, 1}, 0, 0, false},
	} {
		if lo, hi, ok := Ends(d, x.vars, x.coefs); lo != x.lo || hi != x.hi || ok != x.ok {
			t.Errorf("Ends(%v, %v): %d %d %v, want %d %d %v", x.vars, x.coefs, lo, hi, ok, x.lo, x.hi, x.ok)
		}
	}
}

// P7.1: ends that come up to 2^62 and down to -2^62.
func TestEndsGreat(t *testing.T) {
	ends := of(-top, top)
	for _, x := range []struct {
		d      [][]api.Range
		coefs  []int
		lo, hi int
	}{
		{doms(ends), []int{1 << 42}, -most, most},
		{doms(ends), []int{-1 << 42}, -most, most},
		{doms(of(top)), []int{1 << 42}, most, most},
		{doms(of(top)), []int{-1 << 42}, -most, -most},
		{doms(of(-top)), []int{1 << 42}, -most, -most},
		{doms(ends, ends), []int{1 << 41, -1 << 41}, -most, most},
		{doms(of(top), of(-top)), []int{1 << 41, -1 << 41}, most, most},
		{doms(of(top), of(-top)), []int{1<<42 - 1, 1}, most - 2*top, most - 2*top},
		{slices.Repeat(doms(ends), 64), slices.Repeat([]int{1 << 36, -1 << 36}, 32), -most, most},
	} {
		c := lin(api.Le, 0, x.coefs...)
		if e := model.Con(x.d, c); e != api.OK {
			t.Fatal(x.coefs, e)
		}
		if lo, hi, ok := Ends(x.d, c.Vars, x.coefs); lo != x.lo || hi != x.hi || !ok {
			t.Errorf("Ends(%v, %v): %d %d %v, want %d %d", x.d, x.coefs, lo, hi, ok, x.lo, x.hi)
		}
	}
}

// P7.2: sums that are at most a number.
func TestPruneLe(t *testing.T) {
	five := to(0, 5)
	checkPrunes(t, map[string]prunedCase{
		"one term":                 {doms(five), lin(api.Le, 3, 1), doms(to(0, 3))},
		"one term, all stays":      {doms(five), lin(api.Le, 5, 1), doms(five)},
		"one term, one stays":      {doms(five), lin(api.Le, 0, 1), doms(of(0))},
		"one term, none stays":     {doms(five), lin(api.Le, -1, 1), nil},
		"one term below 0":         {doms(five), lin(api.Le, -3, -1), doms(to(3, 5))},
		"below 0, one stays":       {doms(five), lin(api.Le, -5, -1), doms(of(5))},
		"below 0, none stays":      {doms(five), lin(api.Le, -6, -1), nil},
		"cut down, 5 / 2":          {doms(five), lin(api.Le, 5, 2), doms(to(0, 2))},
		"cut down, -5 / 2":         {doms(to(-5, 5)), lin(api.Le, -5, 2), doms(to(-5, -3))},
		"cut up, 5 / -2":           {doms(to(-5, 5)), lin(api.Le, 5, -2), doms(to(-2, 5))},
		"cut up, -5 / -2":          {doms(to(-5, 5)), lin(api.Le, -5, -2), doms(to(3, 5))},
		"just a quotient":          {doms(to(-5, 5)), lin(api.Le, -4, 2), doms(to(-5, -2))},
		"just a quotient, turned":  {doms(to(-5, 5)), lin(api.Le, -4, -2), doms(to(2, 5))},
		"below and above 0":        {doms(five, five), over(lin(api.Le, -3, -1, 1), 1, 0), doms(to(0, 2), to(3, 5))},
		"several ranges":           {doms(of(-4, -3, 0, 6, 8, 9), of(0, 1, 5)), lin(api.Le, 6, 1, 1), doms(of(-4, -3, 0, 6), of(0, 1, 5))},
		"several ranges, turned":   {doms(of(-4, -3, 0, 6, 8, 9), of(0, 1, 5)), lin(api.Le, -7, -1, 1), doms(of(8, 9), of(0, 1))},
		"cut between ranges":       {doms(of(0, 1, 5, 6)), lin(api.Le, 3, 1), doms(to(0, 1))},
		"cut between them, turned": {doms(of(0, 1, 5, 6)), lin(api.Le, -3, -1), doms(to(5, 6))},
		"cut within a range":       {doms(of(0, 1, 5, 6, 7)), lin(api.Le, 6, 1), doms(of(0, 1, 5, 6))},
		"cut within it, turned":    {doms(of(0, 1, 2, 5, 6)), lin(api.Le, -1, -1), doms(of(1, 2, 5, 6))},
		"all known, at the number": {doms(of(2), of(3)), lin(api.Le, 7, 2, 1), doms(of(2), of(3))},
		"all known, above it":      {doms(of(2), of(3)), lin(api.Le, 6, 2, 1), nil},
		"all known but one":        {doms(of(2), to(-9, 9)), lin(api.Le, 7, 2, 1), doms(of(2), to(-9, 3))},
		"no room":                  {doms(five, five), lin(api.Le, -1, 1, 1), nil},
		"just room":                {doms(five, five), lin(api.Le, 0, 1, 1), doms(of(0), of(0))},
		"others stay":              {doms(of(9), five, to(-3, 4), five), over(lin(api.Le, 1, 1, 1), 3, 1), doms(of(9), to(0, 1), to(-3, 4), to(0, 1))},
		"three":                    {doms(to(-2, 4), to(1, 3), to(0, 9)), lin(api.Le, -20, 3, 2, -1), nil},
		"three, one round":         {doms(to(-2, 4), to(1, 3), to(0, 9)), lin(api.Le, -10, 3, 2, -1), doms(to(-2, -1), of(1, 2), to(6, 9))},
	})
}

// P7.2: sums that are a number.
func TestPruneEq(t *testing.T) {
	five := to(0, 5)
	checkPrunes(t, map[string]prunedCase{
		"one term":              {doms(five), lin(api.Eq, 4, 2), doms(of(2))},
		"one term below 0":      {doms(five), lin(api.Eq, -6, -2), doms(of(3))},
		"one term, no quotient": {doms(five), lin(api.Eq, 5, 2), nil},
		"one term, not within":  {doms(of(0, 1, 4, 5)), lin(api.Eq, 3, 1), nil},
		"one term, above":       {doms(five), lin(api.Eq, 6, 1), nil},
		"one term, below":       {doms(five), lin(api.Eq, -1, 1), nil},
		"both sides":            {doms(five, five), lin(api.Eq, 8, 1, 1), doms(to(3, 5), to(3, 5))},
		"by ends alone":         {doms(of(0, 1, 5), of(0, 4)), lin(api.Eq, 5, 1, 1), doms(of(1, 5), of(0, 4))},
		"holes stay":            {doms(to(0, 9), of(0, 2)), lin(api.Eq, 5, 1, 1), doms(to(3, 5), of(0, 2))},
		"all known":             {doms(of(2), of(3)), lin(api.Eq, 1, 2, -1), doms(of(2), of(3))},
		"all known, above":      {doms(of(2), of(3)), lin(api.Eq, 0, 2, -1), nil},
		"all known, below":      {doms(of(2), of(3)), lin(api.Eq, 2, 2, -1), nil},
		"all known but one":     {doms(of(2), five, of(8)), over(lin(api.Eq, 7, 1, 2), 1, 0), doms(of(2), of(3), of(8))},
		"several rounds":        {doms(to(1, 5), to(1, 5)), lin(api.Eq, 0, 3, -2), doms(of(2), of(3))},
		"rounds to none":        {doms(to(0, 9), to(0, 9)), lin(api.Eq, 1, 2, -2), nil},
		"rounds over holes":     {doms(of(0, 2, 4, 6), of(1, 3, 5, 6)), lin(api.Eq, 0, 1, -1), doms(of(6), of(6))},
		"rounds from above":     {doms(of(-9, 0, 2, 4), of(-9, 1, 3, 5)), lin(api.Eq, 0, 1, -1), doms(of(-9), of(-9))},
		"rounds that stop":      {doms(of(0, 3, 4, 7, 9), of(2, 3, 5, 7, 8)), lin(api.Eq, 0, 1, -1), doms(of(3, 4, 7), of(3, 5, 7))},
		"three":                 {doms(to(0, 9), to(0, 9), of(0, 1)), lin(api.Eq, 20, 3, -1, 7), doms(to(5, 9), to(0, 9), of(0, 1))},
		"the first side alone":  {doms(to(0, 9), of(0)), lin(api.Eq, 9, 1, 1), doms(of(9), of(0))},
		"the second side alone": {doms(to(0, 9), of(0)), lin(api.Eq, 0, 1, 1), doms(of(0), of(0))},
	})
}

// P7.2: as many rounds as domains have values, each of which is a range.
func TestPruneManyRounds(t *testing.T) {
	var even, odd []int
	for i := range api.MaxSize {
		even = append(even, 2*i)
		odd = append(odd, 2*i+1)
	}
	odd[api.MaxSize-1] = even[api.MaxSize-1]
	x, y := of(even...), of(odd...)
	for name, c := range map[string]struct {
		d    [][]api.Range
		c    api.Con
		want [][]api.Range
	}{
		"one apart, down to none":  {doms(x, x), lin(api.Eq, 1, 1, -1), nil},
		"no halves, down to none":  {doms(to(0, 4095), to(0, 4095)), lin(api.Eq, 1, 2, -2), nil},
		"alike, up to the last":    {doms(x, y), lin(api.Eq, 0, 1, -1), doms(of(8190), of(8190))},
		"alike, down to the first": {doms(y, x), lin(api.Eq, 8190, 1, 1), doms(of(8190), of(0))},
	} {
		// The domains are too long to be told.
		if l, ok := Prune(c.d, c.c); ok != (c.want != nil) || !sameDoms(l, c.want) {
			t.Errorf("%s: %v, of %d domains", name, ok, len(l))
		}
	}
}

// P7.2: sums that are not a number.
func TestPruneNe(t *testing.T) {
	three := to(0, 3)
	checkPrunes(t, map[string]prunedCase{
		"one term":                 {doms(three), lin(api.Ne, 4, 2), doms(of(0, 1, 3))},
		"one term, at an end":      {doms(three), lin(api.Ne, 0, 2), doms(to(1, 3))},
		"one term, at the other":   {doms(three), lin(api.Ne, -6, -2), doms(to(0, 2))},
		"one term, no quotient":    {doms(three), lin(api.Ne, 3, 2), doms(three)},
		"one term, below 0":        {doms(to(-3, 3)), lin(api.Ne, -3, 2), doms(to(-3, 3))},
		"one term, beyond":         {doms(three), lin(api.Ne, 8, 2), doms(three)},
		"one term, in a hole":      {doms(of(0, 1, 5)), lin(api.Ne, 6, 2), doms(of(0, 1, 5))},
		"one term, one value":      {doms(of(3)), lin(api.Ne, 6, 2), nil},
		"one term, another value":  {doms(of(3)), lin(api.Ne, 5, 2), doms(of(3))},
		"two values, one stays":    {doms(of(3, 9)), lin(api.Ne, 9, 3), doms(of(9))},
		"all but the last":         {doms(of(2), three, of(9)), lin(api.Ne, 4, 1, 2), doms(of(2), of(0, 2, 3), of(9))},
		"all but the first":        {doms(three, of(2)), lin(api.Ne, 4, 2, 1), doms(of(0, 2, 3), of(2))},
		"all but the middle one":   {doms(of(1), to(-3, 0), of(2)), lin(api.Ne, 9, 1, -2, 2), doms(of(1), of(-3, -1, 0), of(2))},
		"not a whole number":       {doms(of(2), three), lin(api.Ne, 5, 1, 2), doms(of(2), three)},
		"two are open":             {doms(of(0, 1), of(0, 1)), lin(api.Ne, 1, 1, 1), doms(of(0, 1), of(0, 1))},
		"two, and one that is not": {doms(of(0, 1), of(1), of(0, 1)), lin(api.Ne, 1, 1, 1, 1), doms(of(0, 1), of(1), of(0, 1))},
		"another one is open":      {doms(of(2), three, three), lin(api.Ne, 4, 1, 2), doms(of(2), of(0, 2, 3), three)},
		"all known, the number":    {doms(of(2), of(3)), lin(api.Ne, 5, 1, 1), nil},
		"all known, below it":      {doms(of(2), of(3)), lin(api.Ne, 6, 1, 1), doms(of(2), of(3))},
		"all known, above it":      {doms(of(2), of(3)), lin(api.Ne, 4, 1, 1), doms(of(2), of(3))},
		"all known, others open":   {doms(of(2), three, of(3)), over(lin(api.Ne, 5, 1, 1), 2, 0), nil},
		"known ones of several":    {doms(of(1), of(2), of(3), three), lin(api.Ne, 1, 1, -1, 1, -1), doms(of(1), of(2), of(3), of(0, 2, 3))},
	})
}

// P7.2: a domain that is empty, among the sum's variables or not, or that would become so, is answered with none and no.
func TestPruneEmpty(t *testing.T) {
	for op := range api.Ops {
		for _, empty := range [][]api.Range{nil, {}} {
			checkPruned(t, "the sum's one", doms(empty), lin(op, 9, 1), nil)
			checkPruned(t, "the sum's first one", doms(empty, to(0, 5)), lin(op, 9, 1, 1), nil)
			checkPruned(t, "the sum's last one", doms(to(0, 5), empty), lin(op, 9, 1, 1), nil)
			checkPruned(t, "not the sum's", doms(to(9, 9), empty), lin(op, 9, 1), nil)
			checkPruned(t, "ahead of the sum's", doms(empty, to(0, 9)), over(lin(op, 9, 1), 1), nil)
		}
	}
	last := doms(to(0, 5), of(4), to(-5, 5))
	checkPruned(t, "by the last one", last, lin(api.Le, -2, 1, 1, 1), nil)
	checkPruned(t, "by its second side", last, lin(api.Eq, 15, 1, 1, 1), nil)
	checkPruned(t, "by its one value", doms(of(1), of(4), of(-5)), lin(api.Ne, 0, 1, 1, 1), nil)
}

// P7.2: how a sum is held is told by its variables, numbers, Op and Rhs alone.
func TestPruneKinds(t *testing.T) {
	d := doms(to(0, 5), to(0, 5), of(0, 1))
	c := lin(api.Le, 4, 2, 1)
	for kind := range api.ConKinds {
		c.Kind, c.B, c.Rows = kind, 2, [][]int{{1, 2}}
		checkPruned(t, "of that kind", d, c, doms(to(0, 2), to(0, 4), of(0, 1)))
	}
}

// P7.2: numbers and values whose products come up to 2^62, and a Rhs that is up to 1 beyond it.
func TestPruneGreat(t *testing.T) {
	ends, near := of(-top, top), of(-top, 1-top, top-1, top)
	k := 1 << 42
	checkPrunes(t, map[string]prunedCase{
		"2^62":                   {doms(near), lin(api.Le, most, k), doms(near)},
		"2^62 + 1":               {doms(near), lin(api.Le, most+1, k), doms(near)},
		"2^62 - 1":               {doms(near), lin(api.Le, most-1, k), doms(of(-top, 1-top, top-1))},
		"-2^62":                  {doms(near), lin(api.Le, -most, k), doms(of(-top))},
		"-2^62 - 1":              {doms(near), lin(api.Le, -most-1, k), nil},
		"-2^62 + 1":              {doms(near), lin(api.Le, 1-most, k), doms(of(-top))},
		"turned, 2^62":           {doms(near), lin(api.Le, most, -k), doms(near)},
		"turned, 2^62 - 1":       {doms(near), lin(api.Le, most-1, -k), doms(of(1-top, top-1, top))},
		"turned, 2^62 + 1":       {doms(near), lin(api.Le, most+1, -k), doms(near)},
		"turned, -2^62":          {doms(near), lin(api.Le, -most, -k), doms(of(top))},
		"turned, -2^62 - 1":      {doms(near), lin(api.Le, -most-1, -k), nil},
		"is 2^62":                {doms(near), lin(api.Eq, most, k), doms(of(top))},
		"is -2^62":               {doms(near), lin(api.Eq, -most, k), doms(of(-top))},
		"is 2^62 + 1":            {doms(near), lin(api.Eq, most+1, k), nil},
		"is -2^62 - 1":           {doms(near), lin(api.Eq, -most-1, k), nil},
		"is not 2^62":            {doms(near), lin(api.Ne, most, k), doms(of(-top, 1-top, top-1))},
		"is not -2^62":           {doms(near), lin(api.Ne, -most, k), doms(of(1-top, top-1, top))},
		"is not 2^62 + 1":        {doms(near), lin(api.Ne, most+1, k), doms(near)},
		"is not -2^62 - 1":       {doms(near), lin(api.Ne, -most-1, k), doms(near)},
		"known, is not 2^62":     {doms(of(top)), lin(api.Ne, most, k), nil},
		"known, is not 2^62 + 1": {doms(of(top)), lin(api.Ne, most+1, k), doms(of(top))},
		"1, 2^62 + 1":            {doms(near), lin(api.Le, most+1, 1), doms(near)},
		"1, -2^62 - 1":           {doms(near), lin(api.Le, -most-1, 1), nil},
		"-1, is not 2^62 + 1":    {doms(near), lin(api.Ne, most+1, -1), doms(near)},
		"two, 2^62 + 1":          {doms(ends, ends), lin(api.Le, most+1, k-1, 1), doms(ends, ends)},
		"two, -2^62 - 1":         {doms(ends, ends), lin(api.Le, -most-1, k-1, 1), nil},
		"two, -2^62":             {doms(ends, ends), lin(api.Le, -most, k-1, 1), doms(of(-top), of(-top))},
		"two, 2^62 - 1":          {doms(ends, ends), lin(api.Le, most-1, k-1, 1), doms(ends, ends)},
		"high, 2^62 + 1":         {doms(of(top), ends), lin(api.Le, most+1, k-1, 1), doms(of(top), ends)},
		"high, 2^62 - 1":         {doms(of(top), ends), lin(api.Le, most-1, k-1, 1), doms(of(top), of(-top))},
		"high, -2^62 - 1":        {doms(of(top), ends), lin(api.Le, -most-1, k-1, 1), nil},
		"low, 2^62 + 1":          {doms(of(-top), ends), lin(api.Le, most+1, k-1, 1), doms(of(-top), ends)},
		"low, is 2^62 + 1":       {doms(of(-top), ends), lin(api.Eq, most+1, k-1, 1), nil},
		"high, is -2^62 - 1":     {doms(of(top), ends), lin(api.Eq, -most-1, k-1, 1), nil},
		"low, is not 2^62 + 1":   {doms(of(-top), ends), lin(api.Ne, most+1, k-1, 1), doms(of(-top), ends)},
		"high, is not -2^62 - 1": {doms(of(top), ends), lin(api.Ne, -most-1, k-1, 1), doms(of(top), ends)},
		"high, is not 2^62":      {doms(of(top), ends), lin(api.Ne, most, k-1, 1), doms(of(top), of(-top))},
		"two, is 2^62":           {doms(ends, ends), lin(api.Eq, most, k/2, -k/2), doms(of(top), of(-top))},
		"two, is 0":              {doms(ends, ends), lin(api.Eq, 0, k/2, -k/2), doms(ends, ends)},
	})
}

// greatCase are domains and a sum whose numbers come just up to what may be.
func (r *dice) greatCase() ([][]api.Range, api.Con) {
	n := 1 + r.next(4)
	c := lin(r.next(api.Ops), 0)
	free := 1 << 42
	var d [][]api.Range
	for i := range n {
		k := min(max(1, free-r.of(1, 2, 5, 1<<20, 1<<41)), free-(n-1-i))
		if i == n-1 && r.next(2) == 0 {
			k = free
		}
		free -= k
		c.Vars = append(c.Vars, i)
		c.Coefs = append(c.Coefs, k*r.of(1, -1))
		var l []int
		for range 1 + r.next(3) {
			l = append(l, r.of(-top, top, 1-top, top-1, r.next(2*top)-top))
		}
		d = append(d, of(l...))
	}
	lo, hi, _ := Ends(d, c.Vars, c.Coefs)
	c.Rhs = min(max(r.of(lo, hi, lo+1, hi-1, lo/2+hi/2, most, -most, most+1, -most-1, 0)+r.of(-1, 0, 0, 1), -most-1), most+1)
	return d, c
}

// P7.1 to P7.4: great numbers, against the slow ways without bounds.
func TestGreatSlow(t *testing.T) {
	r := dice(7)
	for range 30000 {
		d, c := r.greatCase()
		if free := over(lin(c.Op, 0, c.Coefs...), c.Vars...); model.Con(d, free) != api.OK {
			t.Fatal(d, c)
		}
		checkSlow(t, d, c)
	}
}

// checkSlow holds all that is told of a sum against the slow ways.
func checkSlow(t *testing.T, d [][]api.Range, c api.Con) {
	t.Helper()
	want, is := slowPrune(d, c)
	if l, ok := Prune(d, c); ok != is || !sameDoms(l, want) {
		t.Fatalf("Prune(%v, %v): %v %v, want %v %v", d, c, l, ok, want, is)
	}
	wantYes, wantKnown := slowKnown(d, c)
	if yes, known := Known(d, c); yes != wantYes || known != wantKnown {
		t.Fatalf("Known(%v, %v): %v %v, want %v %v", d, c, yes, known, wantYes, wantKnown)
	}
	// Of what is known the other way round is, just the other way round.
	if yes, known := Known(d, Not(c)); known != wantKnown || yes != (known && !wantYes) {
		t.Fatalf("Known(%v, Not(%v)): %v %v", d, c, yes, known)
	}
	var l [][]int
	for _, x := range d {
		l = append(l, dom.Values(x))
	}
	for _, v := range c.Vars {
		if len(l[v]) == 0 {
			return
		}
	}
	lower, higher := slowEnds(l, c, -1)
	if lo, hi, ok := Ends(d, c.Vars, c.Coefs); !ok || wide(lo).Cmp(lower) != 0 || wide(hi).Cmp(higher) != 0 {
		t.Fatalf("Ends(%v, %v): %d %d %v, want %d %d", d, c, lo, hi, ok, lower, higher)
	}
}

// P7.1 to P7.4: sums of up to five of six variables, against the slow ways.
func TestSlow(t *testing.T) {
	r := dice(1)
	for range 40000 {
		var d [][]api.Range
		for range 6 {
			d = append(d, r.domain(1+r.next(6), -12, 12))
		}
		if r.next(20) == 0 {
			d[r.next(6)] = nil
		}
		c := r.sum(1+r.next(5), 6, 1, 1, -1, 2, -2, 3, -5, 7)
		c.Rhs = r.next(121) - 60
		checkSlow(t, d, c)
	}
}

// P7.3: what the ends tell of a sum.
func TestKnown(t *testing.T) {
	d := doms(to(0, 3), to(-1, 1), nil, of(4), of(-2), of(0, 2, 4))
	mixed := func(op, rhs int) api.Con { return over(lin(op, rhs, 2, -3), 0, 1) } // -3 to 9
	one := func(op, rhs int) api.Con { return over(lin(op, rhs, 2, -1), 3, 4) }   // 10
	for _, x := range []struct {
		c          api.Con
		yes, known bool
	}{
		{mixed(api.Le, 10), true, true},
		{mixed(api.Le, 9), true, true},
		{mixed(api.Le, 8), false, false},
		{mixed(api.Le, -3), false, false},
		{mixed(api.Le, -4), false, true},
		{mixed(api.Le, -5), false, true},
		{mixed(api.Eq, 10), false, true},
		{mixed(api.Eq, 9), false, false},
		{mixed(api.Eq, 0), false, false},
		{mixed(api.Eq, -3), false, false},
		{mixed(api.Eq, -4), false, true},
		{mixed(api.Ne, 10), true, true},
		{mixed(api.Ne, 9), false, false},
		{mixed(api.Ne, 0), false, false},
		{mixed(api.Ne, -3), false, false},
		{mixed(api.Ne, -4), true, true},
		{one(api.Le, 9), false, true},
		{one(api.Le, 10), true, true},
		{one(api.Le, 11), true, true},
		{one(api.Eq, 9), false, true},
		{one(api.Eq, 10), true, true},
		{one(api.Eq, 11), false, true},
		{one(api.Ne, 9), true, true},
		{one(api.Ne, 10), false, true},
		{one(api.Ne, 11), true, true},
		// What stands in a hole, or is no quotient, the ends do not tell.
		{over(lin(api.Eq, 3, 1), 5), false, false},
		{over(lin(api.Ne, 3, 1), 5), false, false},
		{over(lin(api.Eq, 3, 2), 0), false, false},
		{over(lin(api.Ne, 3, 2), 0), false, false},
	} {
		if yes, known := Known(d, x.c); yes != x.yes || known != x.known {
			t.Errorf("Known of %v: %v %v, want %v %v", x.c, yes, known, x.yes, x.known)
		}
	}
}

// P7.3: a variable without a value leaves all open; one that is not the sum's does not matter.
func TestKnownEmpty(t *testing.T) {
	d := doms(to(0, 3), nil, []api.Range{})
	for op := range api.Ops {
		for _, rhs := range []int{-100, 0, 3, 100} {
			for _, vars := range [][]int{{0, 1}, {1, 0}, {2, 0}, {1, 2}} {
				if yes, known := Known(d, over(lin(op, rhs, 1, 1), vars...)); yes || known {
					t.Error(op, rhs, vars, yes, known)
				}
			}
			if yes, known := Known(d, over(lin(op, rhs, 1), 1)); yes || known {
				t.Error(op, rhs, yes, known)
			}
		}
	}
	if yes, known := Known(d, lin(api.Le, 3, 1)); !yes || !known {
		t.Error(yes, known)
	}
	if yes, known := Known(d, lin(api.Eq, 4, 1)); yes || !known {
		t.Error(yes, known)
	}
}

// P7.3: numbers at 2^62 and 1 beyond it.
func TestKnownGreat(t *testing.T) {
	ends, k := of(-top, top), 1<<42
	for _, x := range []struct {
		d          []api.Range
		op, rhs    int
		yes, known bool
	}{
		{ends, api.Le, most + 1, true, true},
		{ends, api.Le, most, true, true},
		{ends, api.Le, most - 1, false, false},
		{ends, api.Le, -most, false, false},
		{ends, api.Le, -most - 1, false, true},
		{ends, api.Eq, most + 1, false, true},
		{ends, api.Eq, most, false, false},
		{ends, api.Eq, -most - 1, false, true},
		{ends, api.Ne, most + 1, true, true},
		{ends, api.Ne, -most, false, false},
		{ends, api.Ne, -most - 1, true, true},
		{of(top), api.Le, most - 1, false, true},
		{of(top), api.Le, -most - 1, false, true},
		{of(top), api.Eq, most, true, true},
		{of(top), api.Ne, most, false, true},
		{of(-top), api.Le, -most - 1, false, true},
		{of(-top), api.Le, -most, true, true},
		{of(-top), api.Le, most + 1, true, true},
		{of(-top), api.Eq, -most, true, true},
	} {
		if yes, known := Known(doms(x.d), lin(x.op, x.rhs, k)); yes != x.yes || known != x.known {
			t.Errorf("%v, %d, %d: %v %v, want %v %v", x.d, x.op, x.rhs, yes, known, x.yes, x.known)
		}
	}
}

func sameCon(a, b api.Con) bool {
	return model.Same(api.Model{Cons: []api.Con{a}}, api.Model{Cons: []api.Con{b}})
}

// P7.4: what is so just where a sum is not; all else stays.
func TestNot(t *testing.T) {
	for _, x := range []struct{ c, want api.Con }{
		{lin(api.Le, 5, 2), lin(api.Le, -6, -2)},
		{lin(api.Le, -6, -2), lin(api.Le, 5, 2)},
		{lin(api.Le, 0, 3, -1), lin(api.Le, -1, -3, 1)},
		{lin(api.Le, -1, -3, 1), lin(api.Le, 0, 3, -1)},
		{over(lin(api.Le, 4, 3, -1), 7, 2), over(lin(api.Le, -5, -3, 1), 7, 2)},
		{lin(api.Eq, 5, 2, -9), lin(api.Ne, 5, 2, -9)},
		{lin(api.Ne, -5, 2, -9), lin(api.Eq, -5, 2, -9)},
		{lin(api.Le, most, 1), lin(api.Le, -most-1, -1)},
		{lin(api.Le, -most-1, -1), lin(api.Le, most, 1)},
		{lin(api.Le, -most, 1), lin(api.Le, most-1, -1)},
		{lin(api.Le, most+1, 1), lin(api.Le, -most-2, -1)},
		{lin(api.Eq, most+1, 1), lin(api.Ne, most+1, 1)},
		{lin(api.Le, -1<<42, 1<<41, -1<<41), lin(api.Le, 1<<42-1, -1<<41, 1<<41)},
	} {
		if n := Not(x.c); !sameCon(n, x.want) {
			t.Errorf("Not(%v): %v, want %v", x.c, n, x.want)
		}
	}
	for op := range api.Ops {
		c := api.Con{Kind: api.ConReif, Vars: []int{4, 2}, Coefs: []int{1, -3}, Op: op, Rhs: 8, Rows: [][]int{{1, 2}, {3}}, B: 6}
		n := Not(c)
		if n.Kind != c.Kind || n.B != 6 || !slices.Equal(n.Vars, c.Vars) || !reflect.DeepEqual(n.Rows, c.Rows) {
			t.Error(n)
		}
		if back := Not(n); !sameCon(back, c) {
			t.Errorf("Not of Not of %v: %v", c, back)
		}
	}
}

// P7.3, P7.4: of all values either a sum is so, or what is Not it; Not of Not is the sum itself.
func TestNotTells(t *testing.T) {
	r := dice(3)
	for range 3000 {
		c := r.sum(1+r.next(3), 3, 1, -1, 2, -3, 4)
		c.Rhs = r.next(21) - 10
		n := Not(c)
		if back := Not(n); !sameCon(back, c) {
			t.Fatalf("Not of Not of %v: %v", c, back)
		}
		for a := range box(doms(to(-2, 2), to(-2, 2), to(-2, 2))) {
			if so(c, a) == so(n, a) {
				t.Fatalf("%v and %v of %v", c, n, a)
			}
		}
	}
}

// so tells whether a sum is, of values.
func so(c api.Con, a []int) bool {
	total := 0
	for i, v := range c.Vars {
		total += c.Coefs[i] * a[v]
	}
	switch c.Op {
	case api.Le:
		return total <= c.Rhs
	case api.Eq:
		return total == c.Rhs
	}
	return total != c.Rhs
}

// box goes over all values of domains; the list is one, and changes.
func box(d [][]api.Range) func(func([]int) bool) {
	a := make([]int, len(d))
	var from func(i int, yield func([]int) bool) bool
	from = func(i int, yield func([]int) bool) bool {
		if i == len(d) {
			return yield(a)
		}
		for _, v := range dom.Values(d[i]) {
			a[i] = v
			if !from(i+1, yield) {
				return false
			}
		}
		return true
	}
	return func(yield func([]int) bool) { from(0, yield) }
}

// within tells whether domains have no value that others have not.
func within(a, b [][]api.Range) bool {
	for i, x := range a {
		if len(dom.Minus(x, b[i])) > 0 {
			return false
		}
	}
	return true
}

// checkFollows holds P7.5 of domains and a sum.
func checkFollows(t *testing.T, d [][]api.Range, c api.Con) {
	t.Helper()
	l, ok := Prune(d, c)
	if ok && (len(l) != len(d) || !within(l, d)) {
		t.Fatalf("Prune(%v, %v): %v has more", d, c, l)
	}
	checkSolutions(t, d, l, c)
	if !ok {
		l = make([][]api.Range, len(d))
	} else if again, ok := Prune(l, c); !ok || !sameDoms(again, l) {
		t.Fatalf("Prune(%v, %v): %v, and again %v %v", d, c, l, again, ok)
	}
	for i, x := range d {
		for _, v := range dom.Values(x) {
			fewer := copyDoms(d)
			fewer[i] = dom.Minus(x, of(v))
			if less, _ := Prune(fewer, c); !within(less, l) {
				t.Fatalf("Prune(%v, %v): %v, but of %v: %v", d, c, l, fewer, less)
			}
		}
	}
}

// checkSolutions goes over all values: no solution's may have gone, and what is known must hold of all.
func checkSolutions(t *testing.T, d, left [][]api.Range, c api.Con) {
	t.Helper()
	yes, known := Known(d, c)
	for a := range box(d) {
		if known && so(c, a) != yes {
			t.Fatalf("Known(%v, %v): %v, not of %v", d, c, yes, a)
		}
		if !so(c, a) {
			continue
		}
		for i, v := range a {
			if left == nil || !dom.Has(left[i], v) {
				t.Fatalf("Prune(%v, %v): %v, a solution is %v", d, c, left, a)
			}
		}
	}
}

// P7.5: all domains of four values, and sums of two.
func TestFollowsAll(t *testing.T) {
	var all [][]api.Range
	for bits := 1; bits < 16; bits++ {
		var l []int
		for v := range 4 {
			if bits>>v&1 == 1 {
				l = append(l, v-1)
			}
		}
		all = append(all, of(l...))
	}
	for op := range api.Ops {
		for _, coefs := range [][]int{{1, 1}, {1, -1}, {-2, 1}, {3, 2}, {-2, -3}, {2, -2}} {
			for rhs := -5; rhs <= 5; rhs++ {
				for _, x := range all {
					for _, y := range all {
						checkFollows(t, doms(x, y), lin(op, rhs, coefs...))
					}
				}
			}
		}
	}
}

// P7.5: sums of up to four of five variables.
func TestFollowsSome(t *testing.T) {
	r := dice(5)
	for range 6000 {
		var d [][]api.Range
		for range 5 {
			d = append(d, r.domain(1+r.next(5), -7, 7))
		}
		c := r.sum(1+r.next(4), 5, 1, -1, 2, -3, 4, -6)
		c.Rhs = r.next(61) - 30
		checkFollows(t, d, c)
	}
}

// P7.5: a chain of domains that become fewer and fewer, of great numbers too.
func TestFollowsGreat(t *testing.T) {
	r := dice(11)
	for range 5000 {
		d, c := r.greatCase()
		l, ok := Prune(d, c)
		if !ok {
			continue
		}
		if again, ok := Prune(l, c); !ok || !sameDoms(again, l) {
			t.Fatalf("Prune(%v, %v): %v, and again %v %v", d, c, l, again, ok)
		}
		i := r.next(len(d))
		values := dom.Values(d[i])
		fewer := copyDoms(d)
		fewer[i] = dom.Minus(d[i], of(values[r.next(len(values))]))
		if less, _ := Prune(fewer, c); !within(less, l) {
			t.Fatalf("Prune(%v, %v): %v, but of %v: %v", d, c, l, fewer, less)
		}
	}
}

// spoil writes over all that a list of domains has, spare room too.
func spoil(l [][]api.Range) {
	for _, x := range l {
		x = x[:cap(x)]
		for i := range x {
			x[i] = api.Range{Lo: -77, Hi: -77}
		}
	}
}

// roomy is a list with room behind it that is somebody else's.
func roomy[T any](l []T, rest T) []T {
	behind := append(slices.Clone(l), rest, rest)
	return behind[:len(l)]
}

// memoryCases are sums that leave all, take from one end, from the other, from the middle.
func memoryCases() map[string]prunedCase {
	d := doms(of(0, 1, 3, 4, 5, 8), of(2), of(-3, -1, 0, 7))
	return map[string]prunedCase{
		"all stays":       {d: d, c: lin(api.Le, 100, 1, 1, 1)},
		"from above":      {d: d, c: lin(api.Le, 3, 1, 1, 1)},
		"from below":      {d: d, c: lin(api.Le, -14, -1, -1, -1)},
		"from both ends":  {d: d, c: lin(api.Eq, 5, 2, 1, -3)},
		"in rounds":       {d: d, c: over(lin(api.Eq, 0, 1, -1), 0, 2)},
		"out of a middle": {d: d, c: lin(api.Ne, 8, 2, 1)},
		"not two open":    {d: d, c: lin(api.Ne, 8, 1, 1, 1)},
	}
}

// R4: what is handed in stays as it is, and the room behind it; what is told is its owner's.
func TestPruneMemory(t *testing.T) {
	for name, x := range memoryCases() {
		d := roomy(copyDoms(x.d), to(-5, 5))
		for i := range d {
			d[i] = roomy(d[i], api.Range{Lo: 90, Hi: 99})
		}
		c := x.c
		c.Vars, c.Coefs = roomy(c.Vars, 2), roomy(c.Coefs, 55)
		l, ok := Prune(d, c)
		want, is := slowPrune(x.d, x.c)
		if !ok || !is || !sameDoms(l, want) {
			t.Fatalf("%s: %v %v, want %v", name, l, ok, want)
		}
		checkRoom(t, name, d, x.d, c, x.c)
		spoil(l[:cap(l)])
		checkRoom(t, name+", spoilt", d, x.d, c, x.c)
		kept, _ := Prune(d, c)
		spoil(d)
		clear(c.Vars)
		clear(c.Coefs)
		if !sameDoms(kept, want) {
			t.Errorf("%s: %v became %v", name, want, kept)
		}
	}
}

// checkRoom holds domains and a sum against what they were, the room behind them too.
func checkRoom(t *testing.T, name string, d, was [][]api.Range, c, wasC api.Con) {
	t.Helper()
	if !sameDoms(d, was) || !sameCon(c, wasC) {
		t.Fatalf("%s: %v %v, was %v %v", name, d, c, was, wasC)
	}
	if n := len(d); !dom.Same(d[:n+1][n], to(-5, 5)) {
		t.Fatalf("%s: the room behind all domains has %v", name, d[:n+2])
	}
	for _, x := range d {
		if n := len(x); x[:n+1][n] != (api.Range{Lo: 90, Hi: 99}) {
			t.Fatalf("%s: the room behind a domain has %v", name, x[:n+2])
		}
	}
	if n := len(c.Vars); c.Vars[:n+1][n] != 2 || c.Coefs[:n+1][n] != 55 {
		t.Fatalf("%s: the room behind a sum has %v %v", name, c.Vars[:n+2], c.Coefs[:n+2])
	}
}

// R4: no two domains of an answer share memory, not even if those that are handed in do.
func TestPruneShared(t *testing.T) {
	one := of(0, 1, 3, 4, 5, 8)
	for name, x := range memoryCases() {
		d := doms(one, one, one, one)
		for _, input := range [][][]api.Range{d, append(copyDoms(x.d), one)} {
			l, ok := Prune(input, x.c)
			for i := range l {
				was := copyDoms(l)
				spoil(l[i : i+1])
				was[i] = l[i]
				if !ok || !sameDoms(l, was) {
					t.Fatalf("%s: %v, was %v", name, l, was)
				}
				l, _ = Prune(input, x.c)
			}
		}
		if !sameDoms(d, doms(one, one, one, one)) || !dom.Same(one, of(0, 1, 3, 4, 5, 8)) {
			t.Fatalf("%s: %v", name, d)
		}
	}
}

// R4: Ends and Known change nothing; Not is in memory of its own.
func TestNotMemory(t *testing.T) {
	for op := range api.Ops {
		c := api.Con{Vars: roomy([]int{1, 0}, 9), Coefs: roomy([]int{2, -3}, 9), Op: op, Rhs: 4, Rows: roomy([][]int{roomy([]int{1, 2}, 9), {3}}, nil)}
		was := api.Con{Vars: []int{1, 0}, Coefs: []int{2, -3}, Op: op, Rhs: 4, Rows: [][]int{{1, 2}, {3}}}
		d := doms(to(0, 5), of(1, 7))
		Known(d, c)
		Ends(d, c.Vars, c.Coefs)
		n := Not(c)
		if !sameCon(c, was) || !sameDoms(d, doms(to(0, 5), of(1, 7))) {
			t.Fatal(op, c, d)
		}
		want := Not(was)
		for _, l := range [][]int{n.Vars, n.Coefs, n.Rows[0], n.Rows[1]} {
			l = l[:cap(l)]
			for i := range l {
				l[i] = -8
			}
		}
		clear(n.Rows[:cap(n.Rows)])
		if !sameCon(c, was) || c.Vars[:3][2] != 9 || c.Coefs[:3][2] != 9 || c.Rows[0][:3][2] != 9 {
			t.Fatal(op, c)
		}
		n = Not(c)
		clear(c.Rows[0])
		clear(c.Vars)
		clear(c.Coefs)
		clear(c.Rows)
		if !sameCon(n, want) {
			t.Fatal(op, n, want)
		}
	}
}

// R3, R5: lists that are nil and lists that are empty are the same, and the same call answers the same.
func TestOneAnswer(t *testing.T) {
	for name, x := range memoryCases() {
		first, _ := Prune(x.d, x.c)
		c := x.c
		c.Rows = [][]int{}
		for range 3 {
			if l, ok := Prune(x.d, c); !ok || !sameDoms(l, first) {
				t.Errorf("%s: %v %v, was %v", name, l, ok, first)
			}
		}
	}
	if l, ok := Prune(doms(to(0, 5), nil), lin(api.Le, 9, 1)); ok || l != nil {
		t.Error(l, ok)
	}
	if l, ok := Prune(doms(to(0, 5)), lin(api.Le, -9, 1)); ok || l != nil {
		t.Error(l, ok)
	}
	if n := Not(api.Con{Vars: []int{0}, Coefs: []int{1}, Op: api.Eq}); len(n.Rows) != 0 {
		t.Error(n)
	}
}
