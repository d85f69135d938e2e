package trail

import (
	"math"
	"slices"
	"testing"

	"secateur/api"
	"secateur/dom"
)

const big = 1 << 20

// ranges reads pairs of ends.
func ranges(ends ...int) []api.Range {
	var d []api.Range
	for i := 0; i < len(ends); i += 2 {
		d = append(d, api.Range{Lo: ends[i], Hi: ends[i+1]})
	}
	return d
}

// subset is the domain of the numbers from 0 on whose bits are set.
func subset(bits int) []api.Range {
	var l []int
	for v := range 12 {
		if bits>>v&1 == 1 {
			l = append(l, v)
		}
	}
	d, _ := dom.Of(l)
	return d
}

// store is one of domains that are right.
func store(t *testing.T, l ...[]api.Range) *Store {
	t.Helper()
	s, e := New(l)
	if e != api.OK || s == nil {
		t.Fatal(s, e)
	}
	return s
}

// set sets what may be set.
func set(t *testing.T, s *Store, i int, d []api.Range) {
	t.Helper()
	if e := s.Set(i, d); e != api.OK {
		t.Fatalf("Set(%d, %v): %d", i, d, e)
	}
}

// back goes back where there is a mark.
func back(t *testing.T, s *Store) {
	t.Helper()
	if e := s.Back(); e != api.OK {
		t.Fatalf("Back: %d", e)
	}
}

func sameLists(a, b [][]api.Range) bool { return slices.EqualFunc(a, b, dom.Same) }

// told is a store's state, as far as it tells without being changed.
type told struct {
	domains        [][]api.Range
	level, changes int
}

// check holds all that a store tells against what it should.
func (x told) check(t *testing.T, s *Store, when string) {
	t.Helper()
	if s.Len() != len(x.domains) || s.Level() != x.level || s.Changes() != x.changes {
		t.Fatalf("%s: Len %d Level %d Changes %d, want %d %d %d", when, s.Len(), s.Level(), s.Changes(), len(x.domains), x.level, x.changes)
	}
	if all := s.All(); !sameLists(all, x.domains) {
		t.Fatalf("%s: All %v, want %v", when, all, x.domains)
	}
	for i, d := range x.domains {
		if got := s.Get(i); !dom.Same(got, d) {
			t.Fatalf("%s: Get(%d) %v, want %v", when, i, got, d)
		}
	}
	for _, i := range []int{-1, len(x.domains), len(x.domains) + 1, math.MinInt, math.MaxInt} {
		if got := s.Get(i); got != nil {
			t.Fatalf("%s: Get(%d) %v", when, i, got)
		}
	}
}

// slow is a store the slow way: sets of bits, and a mark has all of them.
type slow struct {
	bits    []int
	changes int
	marks   []slow
}

func (x *slow) told() told {
	var l [][]api.Range
	for _, b := range x.bits {
		l = append(l, subset(b))
	}
	return told{domains: l, level: len(x.marks), changes: x.changes}
}

func (x *slow) set(i, bits int) api.Errno {
	if i < 0 || i >= len(x.bits) || bits&^x.bits[i] != 0 {
		return api.ErrArg
	}
	if bits != x.bits[i] {
		x.bits[i] = bits
		x.changes++
	}
	return api.OK
}

func (x *slow) mark() {
	x.marks = append(x.marks, slow{bits: slices.Clone(x.bits), changes: x.changes})
}

func (x *slow) back() api.Errno {
	n := len(x.marks)
	if n == 0 {
		return api.ErrTrailNone
	}
	x.bits, x.changes, x.marks = slices.Clone(x.marks[n-1].bits), x.marks[n-1].changes, x.marks[:n-1]
	return api.OK
}

func (x *slow) copy() *slow {
	return &slow{bits: slices.Clone(x.bits), changes: x.changes, marks: slices.Clone(x.marks)}
}

// dice are numbers that look like chance, and are the same ones each time.
type dice uint64

func (r *dice) next(n int) int {
	*r = *r*6364136223846793005 + 1442695040888963407
	return int(uint64(*r)>>33) % n
}

// P3.1: which domains may be, and that the first wrong one's error is told.
func TestNew(t *testing.T) {
	good, long := ranges(1, 3, 7, 7), ranges(0, 4095)
	form, many := ranges(2, 1), ranges(0, 4096)
	for _, x := range []struct {
		name string
		l    [][]api.Range
		want api.Errno
	}{
		{"nil", nil, api.OK},
		{"no domains", [][]api.Range{}, api.OK},
		{"one", [][]api.Range{good}, api.OK},
		{"an empty one", [][]api.Range{nil}, api.OK},
		{"empty ones", [][]api.Range{nil, {}, nil}, api.OK},
		{"some", [][]api.Range{good, nil, long, good}, api.OK},
		{"both ends of all values", [][]api.Range{ranges(-big, -big, big, big)}, api.OK},
		{"of no form", [][]api.Range{form}, api.ErrDomForm},
		{"touching", [][]api.Range{ranges(1, 2, 3, 4)}, api.ErrDomForm},
		{"beyond the values", [][]api.Range{ranges(big, big+1)}, api.ErrDomForm},
		{"too many values", [][]api.Range{many}, api.ErrBig},
		{"of no form, then too many", [][]api.Range{good, form, many}, api.ErrDomForm},
		{"too many, then of no form", [][]api.Range{good, many, form}, api.ErrBig},
		{"the last one wrong", [][]api.Range{good, nil, long, form}, api.ErrDomForm},
	} {
		s, e := New(x.l)
		if e != x.want || (s == nil) != (e != api.OK) {
			t.Fatalf("%s: %v %d, want %d", x.name, s, e, x.want)
		}
		if s != nil {
			told{domains: x.l}.check(t, s, x.name)
		}
	}
}

// P3.1: a store without domains has all the calls, too.
func TestNoDomains(t *testing.T) {
	s := store(t)
	none := told{}
	none.check(t, s, "new")
	if e := s.Set(0, nil); e != api.ErrArg {
		t.Error(e)
	}
	none.check(t, s, "set")
	s.Mark()
	told{level: 1}.check(t, s, "marked")
	told{level: 1}.check(t, s.Copy(), "copied")
	back(t, s)
	if e := s.Back(); e != api.ErrTrailNone {
		t.Error(e)
	}
	none.check(t, s, "back")
}

// P3.1: as many domains as one likes.
func TestManyDomains(t *testing.T) {
	var l [][]api.Range
	for i := range 5000 {
		l = append(l, ranges(i, i+3))
	}
	s := store(t, l...)
	told{domains: l}.check(t, s, "new")
	s.Mark()
	for i := range l {
		set(t, s, i, ranges(i, i))
	}
	if s.Changes() != len(l) || !dom.Same(s.Get(4999), ranges(4999, 4999)) {
		t.Error(s.Changes(), s.Get(4999))
	}
	back(t, s)
	told{domains: l}.check(t, s, "back")
}

// P3.2: what a domain may become, which error is told first, and (R2) that a wrong one changes nothing, behind a mark or not.
func TestSet(t *testing.T) {
	was := [][]api.Range{ranges(1, 3, 5, 5), ranges(0, 1), nil, ranges(0, 4095), ranges(-big, -big, big, big)}
	for _, x := range []struct {
		name string
		i    int
		d    []api.Range
		want api.Errno
		n    int
	}{
		{"fewer", 0, ranges(1, 2, 5, 5), api.OK, 1},
		{"a hole", 0, ranges(1, 1, 3, 3), api.OK, 1},
		{"one", 0, ranges(5, 5), api.OK, 1},
		{"none of some", 0, nil, api.OK, 1},
		{"none of some, an empty list", 0, []api.Range{}, api.OK, 1},
		{"the same", 0, ranges(1, 3, 5, 5), api.OK, 0},
		{"the same, all", 3, ranges(0, 4095), api.OK, 0},
		{"none of none", 2, nil, api.OK, 0},
		{"none of none, an empty list", 2, []api.Range{}, api.OK, 0},
		{"one end of all values", 4, ranges(-big, -big), api.OK, 1},
		{"the other end", 4, ranges(big, big), api.OK, 1},
		{"half of many", 3, ranges(0, 2047), api.OK, 1},
		{"a value between", 0, ranges(4, 4), api.ErrArg, 0},
		{"all between too", 0, ranges(1, 5), api.ErrArg, 0},
		{"a value below", 0, ranges(0, 3), api.ErrArg, 0},
		{"a value above", 0, ranges(5, 6), api.ErrArg, 0},
		{"as many others", 1, ranges(1, 2), api.ErrArg, 0},
		{"fewer, and one other", 0, ranges(1, 1, 9, 9), api.ErrArg, 0},
		{"some of none", 2, ranges(0, 0), api.ErrArg, 0},
		{"of another domain", 4, ranges(0, 1), api.ErrArg, 0},
		{"below the first", -1, nil, api.ErrArg, 0},
		{"behind the last", 5, nil, api.ErrArg, 0},
		{"far below", math.MinInt, ranges(1, 1), api.ErrArg, 0},
		{"far behind", math.MaxInt, ranges(1, 1), api.ErrArg, 0},
		{"no such one, of no form", 5, ranges(2, 1), api.ErrArg, 0},
		{"no such one, too many", -1, ranges(0, 4096), api.ErrArg, 0},
		{"of no form", 0, ranges(3, 1), api.ErrDomForm, 0},
		{"its values, touching", 0, ranges(1, 2, 3, 3), api.ErrDomForm, 0},
		{"its values, falling", 0, ranges(5, 5, 1, 3), api.ErrDomForm, 0},
		{"beyond the values", 4, ranges(big, big+1), api.ErrDomForm, 0},
		{"of no form, and others", 0, ranges(9, 9, 8, 8), api.ErrDomForm, 0},
		{"too many", 3, ranges(0, 4096), api.ErrBig, 0},
		{"too many of none", 2, ranges(0, 4096), api.ErrBig, 0},
	} {
		s := store(t, was...)
		before := told{domains: was}
		after := told{domains: slices.Clone(was), changes: x.n}
		if x.want == api.OK {
			after.domains[x.i] = x.d
		}
		for _, marks := range []int{0, 2} {
			for range marks {
				s.Mark()
			}
			before.level, after.level = marks, marks
			c := s.Copy()
			if e := c.Set(x.i, x.d); e != x.want {
				t.Errorf("%s: %d, want %d", x.name, e, x.want)
			}
			after.check(t, c, x.name)
			before.check(t, s, x.name+", the original")
			if marks == 0 {
				continue
			}
			back(t, c)
			before.level--
			before.check(t, c, x.name+", taken back")
		}
	}
}

// P3.2: all pairs of sets of few values: just what is within may be, and just another one is a change.
func TestSetOfAllPairs(t *testing.T) {
	for a := range 1 << 6 {
		for b := range 1 << 6 {
			x := &slow{bits: []int{a}}
			s := store(t, subset(a))
			if got, want := s.Set(0, subset(b)), x.set(0, b); got != want {
				t.Fatalf("%v to %v: %d, want %d", subset(a), subset(b), got, want)
			}
			x.told().check(t, s, "set")
		}
	}
}

// P3.2: each domain is set by itself, and a domain may be set again and again.
func TestSetAgain(t *testing.T) {
	s := store(t, ranges(1, 9), ranges(1, 9), ranges(1, 9))
	for i, x := range []struct {
		i, lo, hi, n int
	}{{1, 2, 8, 1}, {1, 3, 7, 2}, {1, 3, 7, 2}, {0, 3, 7, 3}, {2, 1, 9, 3}, {2, 9, 9, 4}, {1, 5, 5, 5}} {
		set(t, s, x.i, ranges(x.lo, x.hi))
		if s.Changes() != x.n {
			t.Error(i, s.Changes())
		}
	}
	told{domains: [][]api.Range{ranges(3, 7), ranges(5, 5), ranges(9, 9)}, changes: 5}.check(t, s, "at last")
	if e := s.Set(1, ranges(3, 7)); e != api.ErrArg {
		t.Error("it grew again", e)
	}
}

// P3.3, the chapter's example.
func TestExample(t *testing.T) {
	s := store(t, ranges(1, 5))
	s.Mark()
	set(t, s, 0, ranges(2, 3))
	told{domains: [][]api.Range{ranges(2, 3)}, level: 1, changes: 1}.check(t, s, "set")
	back(t, s)
	told{domains: [][]api.Range{ranges(1, 5)}}.check(t, s, "back")
}

// P3.3: marks within marks, several domains behind one mark, one of them several times.
func TestMarksWithinMarks(t *testing.T) {
	s := store(t, ranges(0, 9), ranges(0, 9), ranges(0, 9))
	set(t, s, 0, ranges(0, 8))
	at := []told{{domains: [][]api.Range{ranges(0, 8), ranges(0, 9), ranges(0, 9)}, changes: 1}}
	s.Mark()
	set(t, s, 0, ranges(0, 6))
	set(t, s, 1, ranges(1, 9))
	set(t, s, 0, ranges(0, 5))
	set(t, s, 0, ranges(0, 4))
	at = append(at, told{domains: [][]api.Range{ranges(0, 4), ranges(1, 9), ranges(0, 9)}, level: 1, changes: 5})
	s.Mark()
	at = append(at, told{domains: at[1].domains, level: 2, changes: 5})
	s.Mark()
	set(t, s, 2, nil)
	set(t, s, 1, ranges(2, 2, 5, 5))
	set(t, s, 0, ranges(0, 4))
	at = append(at, told{domains: [][]api.Range{ranges(0, 4), ranges(2, 2, 5, 5), nil}, level: 3, changes: 7})
	s.Mark()
	set(t, s, 1, ranges(5, 5))
	set(t, s, 1, nil)
	set(t, s, 0, ranges(0, 0))
	told{domains: [][]api.Range{ranges(0, 0), nil, nil}, level: 4, changes: 10}.check(t, s, "innermost")
	for level := 3; level >= 0; level-- {
		back(t, s)
		at[level].check(t, s, "back")
	}
	if e := s.Back(); e != api.ErrTrailNone {
		t.Error(e)
	}
	at[0].check(t, s, "without a mark")
}

// P3.3: what was set without a mark is never taken back.
func TestSetWithoutAMark(t *testing.T) {
	s := store(t, ranges(0, 9))
	set(t, s, 0, ranges(0, 5))
	want := told{domains: [][]api.Range{ranges(0, 5)}, changes: 1}
	for range 3 {
		if e := s.Back(); e != api.ErrTrailNone {
			t.Error(e)
		}
		want.check(t, s, "no mark")
	}
	s.Mark()
	back(t, s)
	want.check(t, s, "back")
	s.Mark()
	set(t, s, 0, ranges(0, 1))
	back(t, s)
	want.check(t, s, "set and back")
}

// P3.3: a mark is gone with going back; the next ones know nothing of what was behind it.
func TestMarkAgain(t *testing.T) {
	s := store(t, ranges(0, 9), ranges(0, 9))
	s.Mark()
	s.Mark()
	set(t, s, 0, ranges(0, 3))
	back(t, s)
	set(t, s, 0, ranges(5, 9))
	set(t, s, 1, ranges(1, 1))
	s.Mark()
	set(t, s, 0, ranges(6, 6))
	back(t, s)
	told{domains: [][]api.Range{ranges(5, 9), ranges(1, 1)}, level: 1, changes: 2}.check(t, s, "inner")
	back(t, s)
	told{domains: [][]api.Range{ranges(0, 9), ranges(0, 9)}}.check(t, s, "outer")
	s.Mark()
	set(t, s, 1, nil)
	back(t, s)
	told{domains: [][]api.Range{ranges(0, 9), ranges(0, 9)}}.check(t, s, "once more")
}

// P3.4: marks and going back as often leave all as it was, however many there are.
func TestManyMarks(t *testing.T) {
	s := store(t, ranges(0, 4095), ranges(0, 1))
	set(t, s, 1, ranges(1, 1))
	for i := range 100000 {
		s.Mark()
		if i < 4096 {
			set(t, s, 0, nil)
			back(t, s)
			s.Mark()
			set(t, s, 0, ranges(i, 4095))
		}
	}
	if s.Level() != 100000 || s.Changes() != 4096 || !dom.Same(s.Get(0), ranges(4095, 4095)) {
		t.Fatal(s.Level(), s.Changes(), s.Get(0))
	}
	for i := 100000 - 1; i >= 0; i-- {
		back(t, s)
		if want := ranges(min(max(i-1, 0), 4095), 4095); !dom.Same(s.Get(0), want) {
			t.Fatal(i, s.Get(0), want)
		}
	}
	told{domains: [][]api.Range{ranges(0, 4095), ranges(1, 1)}, changes: 1}.check(t, s, "at last")
}

// P3.3 and R7: a copy tells the same, has the marks too, and each goes its own way.
func TestCopy(t *testing.T) {
	s := store(t, ranges(0, 9), ranges(0, 9))
	s.Mark()
	set(t, s, 0, ranges(0, 5))
	s.Mark()
	set(t, s, 0, ranges(0, 3))
	now := told{domains: [][]api.Range{ranges(0, 3), ranges(0, 9)}, level: 2, changes: 2}
	c := s.Copy()
	now.check(t, c, "copied")
	set(t, c, 0, ranges(1, 1))
	set(t, c, 1, ranges(7, 7))
	now.check(t, s, "the copy was set")
	set(t, s, 1, ranges(2, 2))
	s.Mark()
	told{domains: [][]api.Range{ranges(1, 1), ranges(7, 7)}, level: 2, changes: 4}.check(t, c, "the original was set and marked")
	told{domains: [][]api.Range{ranges(0, 3), ranges(2, 2)}, level: 3, changes: 3}.check(t, s, "the original")
	for range 3 {
		back(t, s)
	}
	told{domains: [][]api.Range{ranges(0, 9), ranges(0, 9)}}.check(t, s, "the original went back")
	told{domains: [][]api.Range{ranges(1, 1), ranges(7, 7)}, level: 2, changes: 4}.check(t, c, "while the copy stays")
	s.Mark()
	set(t, s, 0, nil)
	back(t, c)
	told{domains: [][]api.Range{ranges(0, 5), ranges(0, 9)}, level: 1, changes: 1}.check(t, c, "the copy went back")
	back(t, c)
	told{domains: [][]api.Range{ranges(0, 9), ranges(0, 9)}}.check(t, c, "to the beginning")
	if e := c.Back(); e != api.ErrTrailNone {
		t.Error(e)
	}
	told{domains: [][]api.Range{nil, ranges(0, 9)}, level: 1, changes: 1}.check(t, s, "the original at last")
}

// P3.3 and R7: what one of the two does behind a mark that both have does not come back in the other one.
func TestCopyKeepsItsMarks(t *testing.T) {
	for _, copyWorks := range []bool{true, false} {
		s := store(t, ranges(0, 9), ranges(0, 9))
		s.Mark()
		set(t, s, 0, ranges(0, 5))
		works, other := s, s.Copy()
		if copyWorks {
			works, other = other, works
		}
		set(t, works, 1, ranges(4, 4))
		back(t, works)
		set(t, works, 1, ranges(8, 8))
		works.Mark()
		set(t, works, 1, nil)
		back(t, other)
		told{domains: [][]api.Range{ranges(0, 9), ranges(0, 9)}}.check(t, other, "the other one")
		back(t, works)
		told{domains: [][]api.Range{ranges(0, 9), ranges(8, 8)}, changes: 1}.check(t, works, "the one")
	}
}

// P3.1 to P3.4: long walks of calls, against stores that are made the slow way; copies walk on their own.
func TestWalks(t *testing.T) {
	for walk := range 200 {
		r := dice(walk)
		type pair struct {
			s *Store
			x *slow
		}
		x := &slow{}
		var l [][]api.Range
		for range walk % 5 {
			x.bits = append(x.bits, r.next(1<<10))
			l = append(l, subset(x.bits[len(x.bits)-1]))
		}
		pairs := []pair{{store(t, l...), x}}
		for range 300 {
			p := pairs[r.next(len(pairs))]
			switch k := r.next(20); {
			case k < 5:
				p.s.Mark()
				p.x.mark()
			case k < 9:
				if got, want := p.s.Back(), p.x.back(); got != want {
					t.Fatalf("walk %d: Back %d, want %d", walk, got, want)
				}
			case k < 10 && len(pairs) < 4:
				pairs = append(pairs, pair{p.s.Copy(), p.x.copy()})
			default:
				i, bits := r.next(len(x.bits)+2)-1, r.next(1<<10)
				if k < 17 && i >= 0 && i < len(x.bits) {
					bits = p.x.bits[i] &^ (1 << r.next(10))
				}
				if got, want := p.s.Set(i, subset(bits)), p.x.set(i, bits); got != want {
					t.Fatalf("walk %d: Set(%d, %v) %d, want %d", walk, i, subset(bits), got, want)
				}
			}
			for _, p := range pairs {
				p.x.told().check(t, p.s, "walk")
			}
		}
	}
}

// P3.4: between a mark and going back to it no domain gets a value, whatever is tried.
func TestOnlySmaller(t *testing.T) {
	r := dice(7)
	for range 50 {
		s := store(t, subset(r.next(1<<8)), subset(r.next(1<<8)))
		first := told{domains: s.All()}
		s.Mark()
		for range 40 {
			was := s.All()
			s.Set(r.next(2), subset(r.next(1<<8)&r.next(1<<8)))
			for i, d := range s.All() {
				if dom.Minus(d, was[i]) != nil {
					t.Fatalf("%v became %v", was[i], d)
				}
			}
		}
		back(t, s)
		first.check(t, s, "back")
	}
}

// guarded is a list with room behind it, and a way to ask whether all of that is as it was.
func guarded(d []api.Range) ([]api.Range, func() bool) {
	room := append(slices.Clone(d), ranges(77, 78, 90, 95)...)
	was := slices.Clone(room)
	return room[:len(d)], func() bool { return slices.Equal(room, was) }
}

// spoil writes over a list and the room behind it.
func spoil(d []api.Range) {
	d = d[:cap(d)]
	for i := range d {
		d[i] = api.Range{Lo: 1000, Hi: 2000}
	}
}

func spoilAll(l [][]api.Range) {
	for _, d := range l {
		spoil(d)
	}
	l = l[:cap(l)]
	for i := range l {
		l[i] = ranges(3000, 3001)
	}
}

// R4: New neither changes nor keeps what it is handed, nor the room behind.
func TestMemoryOfNew(t *testing.T) {
	a, aStays := guarded(ranges(1, 3, 7, 7))
	b, bStays := guarded(nil)
	room := [][]api.Range{a, b, a, ranges(4, 4), ranges(5, 5)}
	s := store(t, room[:3]...)
	want := told{domains: [][]api.Range{ranges(1, 3, 7, 7), nil, ranges(1, 3, 7, 7)}}
	want.check(t, s, "new")
	set(t, s, 0, ranges(2, 2))
	want.domains[0], want.changes = ranges(2, 2), 1
	want.check(t, s, "set")
	if !aStays() || !bStays() || !sameLists(room, [][]api.Range{ranges(1, 3, 7, 7), nil, ranges(1, 3, 7, 7), ranges(4, 4), ranges(5, 5)}) {
		t.Error(room)
	}
	spoilAll(room)
	want.check(t, s, "what was handed in is written over")
}

// R4: Set neither changes nor keeps what it is handed, also where it is told as wrong or as no change.
func TestMemoryOfSet(t *testing.T) {
	s := store(t, ranges(0, 9), ranges(0, 9))
	want := told{domains: [][]api.Range{ranges(0, 9), ranges(0, 9)}}
	s.Mark()
	want.level = 1
	for _, x := range []struct {
		d []api.Range
		e api.Errno
	}{{ranges(0, 9), api.OK}, {ranges(0, 10), api.ErrArg}, {ranges(3, 2), api.ErrDomForm}, {ranges(1, 3, 7, 8), api.OK}, {ranges(1, 2, 8, 8), api.OK}} {
		d, stays := guarded(x.d)
		if e := s.Set(0, d); e != x.e || !stays() {
			t.Error(x.d, e, stays())
		}
		if x.e == api.OK {
			if !dom.Same(want.domains[0], x.d) {
				want.changes++
			}
			want.domains[0] = x.d
		}
		spoil(d)
		want.check(t, s, "what was handed in is written over")
		s.Mark()
		want.level++
	}
	for range want.level {
		back(t, s)
	}
	told{domains: [][]api.Range{ranges(0, 9), ranges(0, 9)}}.check(t, s, "back")
}

// R4: what is told is its owner's, of the store, of its marks and of its copies.
func TestMemoryOfWhatIsTold(t *testing.T) {
	s := store(t, ranges(0, 3, 5, 9), ranges(0, 9), nil)
	spoilAll(s.All())
	spoil(s.Get(0))
	told{domains: [][]api.Range{ranges(0, 3, 5, 9), ranges(0, 9), nil}}.check(t, s, "new")
	early, one := s.All(), s.Get(0)
	s.Mark()
	set(t, s, 0, ranges(0, 1, 5, 5))
	spoilAll(s.All())
	spoil(s.Get(0))
	c := s.Copy()
	spoilAll(c.All())
	spoil(c.Get(0))
	for i, x := range []*Store{s, c} {
		told{domains: [][]api.Range{ranges(0, 1, 5, 5), ranges(0, 9), nil}, level: 1, changes: 1}.check(t, x, "marked")
		if i == 0 {
			spoil(one)
			spoilAll(early)
		}
		back(t, x)
		told{domains: [][]api.Range{ranges(0, 3, 5, 9), ranges(0, 9), nil}}.check(t, x, "back")
	}
	all := s.All()
	set(t, s, 1, ranges(4, 4))
	if !sameLists(all, [][]api.Range{ranges(0, 3, 5, 9), ranges(0, 9), nil}) {
		t.Error("what was told changed", all)
	}
}

// R4: no two lists of one answer share memory.
func TestListsOfAllAreApart(t *testing.T) {
	d := ranges(1, 3, 7, 7)
	all := store(t, d, d, d).All()
	for i := range all {
		spoil(all[i])
		for _, later := range all[i+1:] {
			if !dom.Same(later, d) {
				t.Fatal(all)
			}
		}
	}
}
