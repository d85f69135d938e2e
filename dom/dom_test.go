package dom

import (
	"math"
	"slices"
	"testing"

	"secateur/api"
)

const big = 1 << 20

// ranges reads pairs of ends.
func ranges(ends ...int) []api.Range {
	var d []api.Range
	for i := 0; i < len(ends); i += 2 {
		d = append(d, api.Range{Lo: ends[i], Hi: ends[i+1]})
	}
	return d
}

// run are the numbers from lo to hi, each a step above the one ahead.
func run(lo, hi, step int) []int {
	var l []int
	for v := lo; v <= hi; v += step {
		l = append(l, v)
	}
	return l
}

// set is a domain the slow way: a number for each value that is in it.
type set map[int]int

func setOf(l ...int) set {
	s := set{}
	for _, v := range l {
		s[v] = 1
	}
	return s
}

func (s set) has(v int) bool { return s[v] == 1 }

// domain writes out the ranges of a set by looking at each value's neighbours.
func (s set) domain() []api.Range {
	var d []api.Range
	for _, v := range s.values() {
		if !s.has(v - 1) {
			d = append(d, api.Range{Lo: v})
		}
		if !s.has(v + 1) {
			d[len(d)-1].Hi = v
		}
	}
	return d
}

func (s set) values() []int {
	var l []int
	for v := range s {
		l = append(l, v)
	}
	slices.Sort(l)
	return l
}

// kept are those of numbers that a question keeps.
func kept(l []int, keep func(v int) bool) []api.Range {
	s := set{}
	for _, v := range l {
		if keep(v) {
			s[v] = 1
		}
	}
	return s.domain()
}

// subsets are all sets of some numbers, the empty one first.
func subsets(l []int) []set {
	var all []set
	for bits := range 1 << len(l) {
		s := set{}
		for i, v := range l {
			if bits>>i&1 == 1 {
				s[v] = 1
			}
		}
		all = append(all, s)
	}
	return all
}

// edgeSets are sets at the ends of what a value may be, and with as many values as a domain may have.
func edgeSets() []set {
	return []set{
		setOf(-big),
		setOf(big),
		setOf(-big, big),
		setOf(-big, -big+1, 0, big-1, big),
		setOf(run(-big, -big+4095, 1)...),
		setOf(run(big-4095, big, 1)...),
		setOf(run(0, 4095, 1)...),
		setOf(run(1, 4096, 1)...),
		setOf(run(0, 8190, 2)...),
		setOf(run(1, 8191, 2)...),
		setOf(run(-big, big, 512)[:4096]...),
	}
}

// P2.1, of Check.
func TestCheck(t *testing.T) {
	for _, x := range []struct {
		name string
		d    []api.Range
		want api.Errno
	}{
		{"nil", nil, api.OK},
		{"empty", []api.Range{}, api.OK},
		{"one value", ranges(5, 5), api.OK},
		{"two ranges", ranges(1, 3, 7, 7), api.OK},
		{"2 above the Hi ahead", ranges(1, 2, 4, 5), api.OK},
		{"1 above the Hi ahead", ranges(1, 2, 3, 4), api.ErrDomForm},
		{"at the Hi ahead", ranges(1, 2, 2, 4), api.ErrDomForm},
		{"within the one ahead", ranges(1, 9, 3, 4), api.ErrDomForm},
		{"the same twice", ranges(1, 2, 1, 2), api.ErrDomForm},
		{"falling", ranges(5, 6, 1, 2), api.ErrDomForm},
		{"touching at the end of three", ranges(1, 2, 4, 5, 6, 6), api.ErrDomForm},
		{"Lo above Hi", ranges(2, 1), api.ErrDomForm},
		{"Lo above Hi behind a right one", ranges(1, 2, 6, 5), api.ErrDomForm},
		{"both ends of all values", ranges(-big, -big, big, big), api.OK},
		{"Hi one beyond", ranges(big, big+1), api.ErrDomForm},
		{"Lo one beyond", ranges(-big-1, -big), api.ErrDomForm},
		{"all beyond", ranges(big+1, big+1), api.ErrDomForm},
		{"all beyond below", ranges(-big-1, -big-1), api.ErrDomForm},
		{"all of int", ranges(math.MinInt, math.MaxInt), api.ErrDomForm},
		{"the ends of int apart", ranges(math.MinInt, math.MinInt, math.MaxInt, math.MaxInt), api.ErrDomForm},
		{"behind the greatest int", ranges(math.MaxInt, math.MaxInt, math.MinInt, 0), api.ErrDomForm},
		{"4096 values", ranges(1, 4096), api.OK},
		{"4097 values", ranges(0, 4096), api.ErrBig},
		{"4096 values in two", ranges(0, 2047, 3000, 5047), api.OK},
		{"4097 values in two", ranges(0, 2047, 3000, 5048), api.ErrBig},
		{"all values", ranges(-big, big), api.ErrBig},
		{"too many, and then a wrong range", ranges(0, 5000, 9, 8), api.ErrDomForm},
		{"too many, and a touching range", ranges(0, 5000, 5001, 5001), api.ErrDomForm},
	} {
		if e := Check(x.d); e != x.want {
			t.Errorf("%s: %d, want %d", x.name, e, x.want)
		}
	}
}

// P2.1: lists of many ranges, each of one value.
func TestCheckOfManyRanges(t *testing.T) {
	var d []api.Range
	for i := range 4097 {
		d = append(d, api.Range{Lo: 2*i - 4000, Hi: 2*i - 4000})
	}
	if e := Check(d[:4096]); e != api.OK {
		t.Error(e)
	}
	if e := Check(d); e != api.ErrBig {
		t.Error(e)
	}
}

// P2.1, of Of, the edges.
func TestOf(t *testing.T) {
	for _, x := range []struct {
		name string
		l    []int
		want []api.Range
		e    api.Errno
	}{
		{"nil", nil, nil, api.OK},
		{"empty", []int{}, nil, api.OK},
		{"the chapter's", []int{3, 1, 2, 7}, ranges(1, 3, 7, 7), api.OK},
		{"each twice", []int{5, 3, 4, 5, 3, 9, 9}, ranges(3, 5, 9, 9), api.OK},
		{"below 0", []int{0, -1, -3}, ranges(-3, -3, -1, 0), api.OK},
		{"both ends", []int{big, -big}, ranges(-big, -big, big, big), api.OK},
		{"one beyond", []int{0, big + 1}, nil, api.ErrDomForm},
		{"one beyond below", []int{-big - 1, 0}, nil, api.ErrDomForm},
		{"the ends of int", []int{math.MaxInt, math.MinInt}, nil, api.ErrDomForm},
		{"4096 values", run(0, 4095, 1), ranges(0, 4095), api.OK},
		{"4097 values", run(0, 4096, 1), nil, api.ErrBig},
		{"4096 values, each twice", append(run(0, 4095, 1), run(0, 4095, 1)...), ranges(0, 4095), api.OK},
		{"4097 values apart", run(0, 8192, 2), nil, api.ErrBig},
		{"too many, and one that is none", append(run(0, 5000, 1), big+1), nil, api.ErrDomForm},
	} {
		if d, e := Of(x.l); !slices.Equal(d, x.want) || e != x.e {
			t.Errorf("%s: %v %d, want %v %d", x.name, d, e, x.want, x.e)
		}
	}
}

// P2.1: 4096 values apart are 4096 ranges.
func TestOfManyRanges(t *testing.T) {
	d, e := Of(run(0, 8190, 2))
	if e != api.OK || len(d) != 4096 || Check(d) != api.OK {
		t.Error(len(d), e)
	}
}

// P2.1: whatever the order, and with one value twice.
func TestOfInAnyOrder(t *testing.T) {
	for _, s := range subsets(run(-3, 4, 1)) {
		l := s.values()
		slices.Reverse(l)
		l = append(l, l...)
		if d, e := Of(l); !slices.Equal(d, s.domain()) || e != api.OK {
			t.Errorf("Of(%v): %v %d, want %v", l, d, e, s.domain())
		}
	}
}

// P2.2, against sets: all of few values, and the edges.
func TestTells(t *testing.T) {
	for _, s := range append(subsets(run(-3, 4, 1)), edgeSets()...) {
		d, l := s.domain(), s.values()
		if got := Values(d); !slices.Equal(got, l) {
			t.Errorf("Values(%v): %v, want %v", d, got, l)
		}
		if n := Size(d); n != len(l) {
			t.Errorf("Size(%v): %d, want %d", d, n, len(l))
		}
		least, most, some := 0, 0, len(l) > 0
		if some {
			least, most = l[0], l[len(l)-1]
		}
		if n, is := Least(d); n != least || is != some {
			t.Errorf("Least(%v): %d %v, want %d %v", d, n, is, least, some)
		}
		if n, is := Most(d); n != most || is != some {
			t.Errorf("Most(%v): %d %v, want %d %v", d, n, is, most, some)
		}
	}
}

// asked are the numbers that are asked for in a domain: those near its first values and its last ones, and those far off.
func asked(l []int) []int {
	far := []int{math.MinInt, math.MinInt + 1, -big - 1, -big, -big + 1, -1, 0, 1, big - 1, big, big + 1, math.MaxInt - 1, math.MaxInt}
	far = append(far, run(-6, 7, 1)...)
	for i, v := range l {
		if i < 5 || i >= len(l)-5 {
			far = append(far, v-2, v-1, v, v+1, v+2)
		}
	}
	return far
}

// P2.2, of Has and Next.
func TestHasAndNext(t *testing.T) {
	for _, s := range append(subsets(run(-3, 4, 1)), edgeSets()...) {
		d, l := s.domain(), s.values()
		for _, v := range asked(l) {
			if Has(d, v) != s.has(v) {
				t.Errorf("Has(%v, %d): %v", d, v, Has(d, v))
			}
			want := 0
			i := slices.IndexFunc(l, func(u int) bool { return u > v })
			if i >= 0 {
				want = l[i]
			}
			if n, is := Next(d, v); n != want || is != (i >= 0) {
				t.Errorf("Next(%v, %d): %d %v, want %d %v", d, v, n, is, want, i >= 0)
			}
		}
	}
}

// P2.2: Next, from below on, tells all values, rising.
func TestNextGoesOverAll(t *testing.T) {
	for _, s := range edgeSets() {
		d := s.domain()
		var l []int
		for v, is := Next(d, math.MinInt); is && len(l) <= api.MaxSize; v, is = Next(d, v) {
			l = append(l, v)
		}
		if !slices.Equal(l, s.values()) {
			t.Errorf("%v: %v", d, l)
		}
	}
}

// P2.2, of Same.
func TestSame(t *testing.T) {
	if !Same(nil, []api.Range{}) || !Same([]api.Range{}, nil) || !Same(nil, nil) {
		t.Error("none and none")
	}
	all := subsets(run(-2, 3, 1))
	for i, a := range all {
		for j, b := range all {
			if Same(a.domain(), b.domain()) != (i == j) {
				t.Errorf("Same(%v, %v): %v", a.domain(), b.domain(), i != j)
			}
		}
	}
}

// checkJoins holds Meet, Join and Minus of two sets against these.
func checkJoins(t *testing.T, a, b set) {
	t.Helper()
	da, db := a.domain(), b.domain()
	both := setOf(append(a.values(), b.values()...)...).values()
	for _, x := range []struct {
		name string
		f    func(a, b []api.Range) []api.Range
		keep func(v int) bool
	}{
		{"Meet", Meet, func(v int) bool { return a.has(v) && b.has(v) }},
		{"Join", Join, func(v int) bool { return true }},
		{"Minus", Minus, func(v int) bool { return a.has(v) && !b.has(v) }},
	} {
		if got, want := x.f(da, db), kept(both, x.keep); !slices.Equal(got, want) {
			t.Errorf("%s(%v, %v): %v, want %v", x.name, da, db, got, want)
		}
	}
}

// P2.3, of Meet, Join and Minus: all pairs of sets of few values.
func TestJoins(t *testing.T) {
	all := subsets(run(-3, 3, 1))
	for _, a := range all {
		for _, b := range all {
			checkJoins(t, a, b)
		}
	}
}

// P2.3: the same at the edges; some of these have more than 4096 values, joined.
func TestJoinsAtTheEdges(t *testing.T) {
	all := append(edgeSets(), set{}, setOf(0), setOf(4096, 4098))
	for _, a := range all {
		for _, b := range all {
			checkJoins(t, a, b)
		}
	}
}

// P2.3: of Join all values stay, also where they are no domain any more.
func TestJoinBeyondADomain(t *testing.T) {
	d := Join(ranges(0, 4095), ranges(4096, 8191))
	if !slices.Equal(d, ranges(0, 8191)) || Check(d) != api.ErrBig {
		t.Error(d)
	}
	d = Join(ranges(-4096, -1), ranges(1, 4096))
	if !slices.Equal(d, ranges(-4096, -1, 1, 4096)) || Check(d) != api.ErrBig {
		t.Error(d)
	}
}

// P2.3, written out: ranges that touch, or are 2 apart.
func TestJoinsOfNeighbours(t *testing.T) {
	for i, x := range []struct{ got, want []api.Range }{
		{Join(ranges(1, 2), ranges(3, 4)), ranges(1, 4)},
		{Join(ranges(3, 4), ranges(1, 2)), ranges(1, 4)},
		{Join(ranges(1, 2), ranges(4, 5)), ranges(1, 2, 4, 5)},
		{Join(ranges(1, 2, 4, 5), ranges(3, 3)), ranges(1, 5)},
		{Join(ranges(1, 9), ranges(3, 4, 6, 7)), ranges(1, 9)},
		{Meet(ranges(1, 5), ranges(5, 9)), ranges(5, 5)},
		{Meet(ranges(1, 9), ranges(1, 2, 4, 5, 9, 9)), ranges(1, 2, 4, 5, 9, 9)},
		{Minus(ranges(1, 5), ranges(3, 3)), ranges(1, 2, 4, 5)},
		{Minus(ranges(-big, -big+2), ranges(-big, -big)), ranges(-big+1, -big+2)},
		{Minus(ranges(big-2, big), ranges(big, big)), ranges(big-2, big-1)},
		{Minus(ranges(big-2, big), ranges(big-1, big-1)), ranges(big-2, big-2, big, big)},
		{Minus(ranges(-big, -big+2), ranges(-big+1, -big+1)), ranges(-big, -big, -big+2, -big+2)},
		{Minus(ranges(1, 5), ranges(1, 5)), nil},
	} {
		if !slices.Equal(x.got, x.want) {
			t.Errorf("%d: %v, want %v", i, x.got, x.want)
		}
	}
}

// P2.3, of Cut, against sets.
func TestCut(t *testing.T) {
	for _, s := range subsets(run(-2, 4, 1)) {
		d := s.domain()
		for lo := -4; lo <= 6; lo++ {
			for hi := -4; hi <= 6; hi++ {
				want := kept(s.values(), func(v int) bool { return lo <= v && v <= hi })
				if got := Cut(d, lo, hi); !slices.Equal(got, want) {
					t.Errorf("Cut(%v, %d, %d): %v, want %v", d, lo, hi, got, want)
				}
			}
		}
	}
}

// P2.3, of Cut, the edges.
func TestCutAtTheEdges(t *testing.T) {
	d := ranges(-big, -big, 1, 3, 7, 7, big, big)
	for _, x := range []struct {
		lo, hi int
		want   []api.Range
	}{
		{2, 7, ranges(2, 3, 7, 7)},
		{math.MinInt, math.MaxInt, d},
		{-big, big, d},
		{-big + 1, big - 1, ranges(1, 3, 7, 7)},
		{big, math.MaxInt, ranges(big, big)},
		{big + 1, math.MaxInt, nil},
		{math.MinInt, -big, ranges(-big, -big)},
		{math.MinInt, -big - 1, nil},
		{math.MaxInt, math.MinInt, nil},
		{3, 2, nil},
		{4, 6, nil},
		{2, 2, ranges(2, 2)},
	} {
		if got := Cut(d, x.lo, x.hi); !slices.Equal(got, x.want) {
			t.Errorf("Cut(%d, %d): %v, want %v", x.lo, x.hi, got, x.want)
		}
	}
}

// P2.4, against sets: each value of few, put on lines of few.
func TestLineAndBack(t *testing.T) {
	for _, s := range subsets(run(-3, 4, 1)) {
		d := s.domain()
		for a := -4; a <= 4; a++ {
			if a == 0 {
				continue
			}
			for b := -3; b <= 3; b++ {
				on := set{}
				for v := range s {
					on[a*v+b] = 1
				}
				if got, e := Line(d, a, b); e != api.OK || !slices.Equal(got, on.domain()) {
					t.Errorf("Line(%v, %d, %d): %v %d, want %v", d, a, b, got, e, on.domain())
				}
				want := kept(run(-20, 20, 1), func(x int) bool { return s.has(a*x + b) })
				if got, e := Back(d, a, b); e != api.OK || !slices.Equal(got, want) {
					t.Errorf("Back(%v, %d, %d): %v %d, want %v", d, a, b, got, e, want)
				}
			}
		}
	}
}

// P2.4, of Line, the edges and wrong inputs; a 0 is told first.
func TestLineAtTheEdges(t *testing.T) {
	for _, x := range []struct {
		d    []api.Range
		a, b int
		want []api.Range
		e    api.Errno
	}{
		{ranges(1, 3, 7, 7), -2, 1, ranges(-13, -13, -5, -5, -3, -3, -1, -1), api.OK},
		{nil, 5, 5, nil, api.OK},
		{ranges(1, 1), big, 0, ranges(big, big), api.OK},
		{ranges(-1, -1), big, 0, ranges(-big, -big), api.OK},
		{ranges(1, 1), -big, 0, ranges(-big, -big), api.OK},
		{ranges(1, 1), big, 1, nil, api.ErrDomForm},
		{ranges(-1, -1), big, -1, nil, api.ErrDomForm},
		{ranges(2, 2), big, -big, ranges(big, big), api.OK},
		{ranges(0, 0), -big, big, ranges(big, big), api.OK},
		{ranges(0, 1), 1, big, nil, api.ErrDomForm},
		{ranges(-1, 0), 1, -big, nil, api.ErrDomForm},
		{ranges(0, 0, 5, 5, big, big), 1, 1, nil, api.ErrDomForm},
		{ranges(-big, -big, 5, 5), 1, -1, nil, api.ErrDomForm},
		{ranges(big, big), big, big, nil, api.ErrDomForm},
		{ranges(-big, -big), -1, 0, ranges(big, big), api.OK},
		{ranges(0, 4095), -1, 0, ranges(-4095, 0), api.OK},
		{ranges(0, 1), 0, 1, nil, api.ErrArg},
		{nil, 0, 1, nil, api.ErrArg},
		{ranges(0, 1), 0, big + 1, nil, api.ErrArg},
		{ranges(0, 0), big + 1, 0, nil, api.ErrDomForm},
		{ranges(0, 0), -big - 1, 0, nil, api.ErrDomForm},
		{nil, big + 1, 0, nil, api.ErrDomForm},
		{nil, 1, big + 1, nil, api.ErrDomForm},
		{ranges(-1, -1), 1, big + 1, nil, api.ErrDomForm},
		{ranges(1, 1), 1, -big - 1, nil, api.ErrDomForm},
		{ranges(2, 2), math.MinInt, 0, nil, api.ErrDomForm},
		{ranges(2, 2), 1 << 62, 0, nil, api.ErrDomForm},
		{ranges(1, 1), 1, math.MaxInt, nil, api.ErrDomForm},
		{ranges(-1, -1), 1, math.MinInt, nil, api.ErrDomForm},
	} {
		if got, e := Line(x.d, x.a, x.b); !slices.Equal(got, x.want) || e != x.e {
			t.Errorf("Line(%v, %d, %d): %v %d, want %v %d", x.d, x.a, x.b, got, e, x.want, x.e)
		}
	}
}

// P2.4, of Back, the edges and wrong inputs; an x that is no value is left out, without an error.
func TestBackAtTheEdges(t *testing.T) {
	for _, x := range []struct {
		d    []api.Range
		a, b int
		want []api.Range
		e    api.Errno
	}{
		{ranges(-13, -13, -5, -1), -2, 1, ranges(1, 3, 7, 7), api.OK},
		{nil, 5, 5, nil, api.OK},
		{ranges(big, big), 1, -5, nil, api.OK},
		{ranges(big-6, big), 1, -1, ranges(big-5, big), api.OK},
		{ranges(-big, -big), 1, 1, nil, api.OK},
		{ranges(-big, -big+6), 1, 1, ranges(-big, -big+5), api.OK},
		{ranges(big, big), -1, 0, ranges(-big, -big), api.OK},
		{ranges(big, big), -1, -1, nil, api.OK},
		{ranges(big, big), 1, -big, nil, api.OK},
		{ranges(big, big), 2, -big, ranges(big, big), api.OK},
		{ranges(-big, -big), 2, big, ranges(-big, -big), api.OK},
		{ranges(-big, -big, 0, 0, big, big), big, 0, ranges(-1, 1), api.OK},
		{ranges(-big, -big, 1, 1, big, big), -big, 0, ranges(-1, -1, 1, 1), api.OK},
		{ranges(1, 2, 4, 5), 3, 0, nil, api.OK},
		{ranges(0, 4095), 1, 4095, ranges(-4095, 0), api.OK},
		{ranges(0, 1), 0, 1, nil, api.ErrArg},
		{nil, 0, 0, nil, api.ErrArg},
		{ranges(0, 1), 0, -big - 1, nil, api.ErrArg},
		{ranges(0, 0), big + 1, 0, nil, api.ErrDomForm},
		{ranges(0, 0), -big - 1, 0, nil, api.ErrDomForm},
		{nil, big + 1, 0, nil, api.ErrDomForm},
		{nil, 1, -big - 1, nil, api.ErrDomForm},
		{ranges(0, 0), 1, big + 1, nil, api.ErrDomForm},
		{ranges(0, 0), math.MinInt, 0, nil, api.ErrDomForm},
		{ranges(0, 0), 1, math.MinInt, nil, api.ErrDomForm},
		{ranges(0, 0), 1, math.MaxInt, nil, api.ErrDomForm},
	} {
		if got, e := Back(x.d, x.a, x.b); !slices.Equal(got, x.want) || e != x.e {
			t.Errorf("Back(%v, %d, %d): %v %d, want %v %d", x.d, x.a, x.b, got, e, x.want, x.e)
		}
	}
}

// P2.5: Of of Values is the domain.
func TestOfValues(t *testing.T) {
	for _, s := range append(subsets(run(-3, 4, 1)), edgeSets()...) {
		d := s.domain()
		if got, e := Of(Values(d)); e != api.OK || !Same(got, d) {
			t.Errorf("%v: %v %d", d, got, e)
		}
	}
}

// P2.5: Meet and Minus of the same two have all values of the first one, and none in common; all that is told is a domain.
func TestMeetAndMinusAreAll(t *testing.T) {
	all := append(subsets(run(-2, 3, 1)), edgeSets()...)
	for _, a := range all {
		for _, b := range all {
			da, db := a.domain(), b.domain()
			meet, minus := Meet(da, db), Minus(da, db)
			if !Same(Join(meet, minus), da) || Meet(meet, minus) != nil {
				t.Errorf("%v, %v: %v, %v", da, db, meet, minus)
			}
			if Check(meet) != api.OK || Check(minus) != api.OK {
				t.Errorf("%v, %v: %v, %v: no domain", da, db, meet, minus)
			}
		}
	}
}

// P2.5: Back of Line is the domain, wherever there is a Line.
func TestBackOfLine(t *testing.T) {
	lines, none := 0, 0
	for _, s := range append(subsets(run(-2, 3, 1)), edgeSets()...) {
		d := s.domain()
		for _, a := range []int{1, -1, 2, -3, 100, big, -big} {
			for _, b := range []int{0, 1, -7, 4096, big, -big} {
				l, e := Line(d, a, b)
				if e != api.OK {
					none++
					continue
				}
				lines++
				if got, e := Back(l, a, b); e != api.OK || !Same(got, d) || Check(l) != api.OK {
					t.Errorf("%v, %d, %d: %v %d", d, a, b, got, e)
				}
			}
		}
	}
	if lines == 0 || none == 0 {
		t.Error(lines, none)
	}
}

// R3: an empty list is as good as nil, handed in and answered.
func TestEmptyAnswers(t *testing.T) {
	none := []api.Range{}
	of, _ := Of([]int{})
	line, _ := Line(none, 1, 0)
	back, _ := Back(none, 1, 0)
	for i, d := range [][]api.Range{of, line, back, Meet(none, none), Join(none, none), Minus(none, none), Cut(none, 0, 9)} {
		if len(d) != 0 || !Same(d, nil) {
			t.Error(i, d)
		}
	}
	if l := Values(none); len(l) != 0 {
		t.Error(l)
	}
}

// guarded is a list with room behind it, and a way to ask whether all of that is as it was.
func guarded(d []api.Range) ([]api.Range, func() bool) {
	room := append(slices.Clone(d), ranges(77, 78, 90, 95)...)
	was := slices.Clone(room)
	return room[:len(d)], func() bool { return slices.Equal(room, was) }
}

// answers are all lists of ranges that the calls tell of two domains.
func answers(a, b []api.Range) [][]api.Range {
	line, _ := Line(a, 1, 0)
	back, _ := Back(a, 1, 0)
	return [][]api.Range{Meet(a, b), Join(a, b), Minus(a, b), Cut(a, -9, 9), line, back, Meet(a, a), Join(a, nil), Join(nil, a), Minus(a, nil), Cut(a, math.MinInt, math.MaxInt)}
}

// spoil writes over a list and the room behind it.
func spoil(d []api.Range) {
	d = d[:cap(d)]
	for i := range d {
		d[i] = api.Range{Lo: 1000, Hi: 2000}
	}
}

// R4: what is handed in stays, the room behind it too; what is told shares no memory with it, nor with what is told later.
func TestMemory(t *testing.T) {
	for _, x := range [][2][]api.Range{
		{ranges(1, 3, 7, 7, 9, 9), ranges(2, 4, 9, 9)},
		{ranges(1, 3), ranges(5, 6)},
		{ranges(1, 9), ranges(1, 9)},
		{ranges(1, 3, 5, 6), nil},
		{nil, ranges(1, 3)},
	} {
		a, aStays := guarded(x[0])
		b, bStays := guarded(x[1])
		first := answers(a, b)
		var was [][]api.Range
		for _, d := range first {
			was = append(was, slices.Clone(d))
		}
		for _, d := range answers(a, b) {
			spoil(d)
		}
		for i, d := range first {
			if !slices.Equal(d, was[i]) {
				t.Errorf("%v: answer %d shares memory with a later one", x, i)
			}
			spoil(d)
			if !aStays() || !bStays() {
				t.Fatalf("%v: answer %d shares memory with what was handed in", x, i)
			}
		}
	}
}

// R4, of the calls that tell no ranges.
func TestMemoryOfTheOthers(t *testing.T) {
	a, aStays := guarded(ranges(1, 3, 7, 7))
	b, bStays := guarded(ranges(1, 3, 8, 8))
	Check(a)
	Size(a)
	Has(a, 2)
	Least(a)
	Most(a)
	Next(a, 2)
	Same(a, b)
	l := Values(a)
	for i := range l {
		l[i] = 1000
	}
	if !aStays() || !bStays() || !slices.Equal(Values(a), []int{1, 2, 3, 7}) {
		t.Error(a, b)
	}
	room := []int{9, 3, 3, 1, 2, 55, 54}
	d, _ := Of(room[:5])
	spoil(d)
	if !slices.Equal(room, []int{9, 3, 3, 1, 2, 55, 54}) {
		t.Error(room)
	}
}
