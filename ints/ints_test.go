package ints

import (
	"math"
	"math/big"
	"slices"
	"testing"

	"secateur/api"
)

const most = 1 << 62

// numbers are ordinary ones, the edges of what is small, and those beyond.
func numbers() []int {
	l := []int{math.MinInt, math.MinInt + 1, math.MaxInt, math.MaxInt - 1}
	for _, n := range []int{0, 1, 2, 3, 5, 7, 12, 18, 100, 1 << 20, 1<<30 + 1, 1<<31 - 1, 1 << 31, 1<<31 + 1, 3037000499, 1 << 32, 1 << 61, 1<<61 + 1, most / 3, most - 1, most, most + 1, most + 2} {
		l = append(l, n, -n)
	}
	return l
}

// pairs are all pairs of numbers, and of all numbers near 0.
func pairs() [][2]int {
	var l [][2]int
	for _, a := range numbers() {
		for _, b := range numbers() {
			l = append(l, [2]int{a, b})
		}
	}
	for a := -20; a <= 20; a++ {
		for b := -20; b <= 20; b++ {
			l = append(l, [2]int{a, b})
		}
	}
	return l
}

func isSmall(n *big.Int) bool {
	return new(big.Int).Abs(n).Cmp(big.NewInt(most)) <= 0
}

// watched is what Add, Sub and Mul have to answer, of a result without bounds.
func watched(a, b int, r *big.Int) (int, bool) {
	if isSmall(big.NewInt(int64(a))) && isSmall(big.NewInt(int64(b))) && isSmall(r) {
		return int(r.Int64()), true
	}
	return 0, false
}

type reckoner struct {
	name  string
	f     func(a, b int) (int, bool)
	exact func(z, a, b *big.Int) *big.Int
}

func reckoners() []reckoner {
	return []reckoner{
		{"Add", Add, (*big.Int).Add},
		{"Sub", Sub, (*big.Int).Sub},
		{"Mul", Mul, (*big.Int).Mul},
	}
}

// P1.1, against numbers without bounds.
func TestReckonersAreExact(t *testing.T) {
	for _, r := range reckoners() {
		for _, p := range pairs() {
			exact := r.exact(new(big.Int), big.NewInt(int64(p[0])), big.NewInt(int64(p[1])))
			want, wantOK := watched(p[0], p[1], exact)
			if n, ok := r.f(p[0], p[1]); n != want || ok != wantOK {
				t.Errorf("%s(%d, %d): %d %v, want %d %v", r.name, p[0], p[1], n, ok, want, wantOK)
			}
		}
	}
}

// P1.1, the edges, written out.
func TestReckonersAtTheEdges(t *testing.T) {
	for _, x := range []struct {
		name string
		f    func(a, b int) (int, bool)
		a, b int
		want int
		ok   bool
	}{
		{"Add", Add, 2, 3, 5, true},
		{"Add", Add, most - 1, 1, most, true},
		{"Add", Add, most, 0, most, true},
		{"Add", Add, most, 1, 0, false},
		{"Add", Add, most, most, 0, false},
		{"Add", Add, 1 - most, -1, -most, true},
		{"Add", Add, -most, -1, 0, false},
		{"Add", Add, -most, -most, 0, false},
		{"Add", Add, most + 1, -1, 0, false},
		{"Add", Add, -1, most + 1, 0, false},
		{"Add", Add, math.MinInt, most, 0, false},
		{"Add", Add, math.MaxInt, math.MinInt, 0, false},
		{"Sub", Sub, 2, 5, -3, true},
		{"Sub", Sub, most, most, 0, true},
		{"Sub", Sub, -most, -most, 0, true},
		{"Sub", Sub, 0, -most, most, true},
		{"Sub", Sub, 1, -most, 0, false},
		{"Sub", Sub, -1, most, 0, false},
		{"Sub", Sub, 0, math.MinInt, 0, false},
		{"Sub", Sub, -most, math.MinInt, 0, false},
		{"Sub", Sub, math.MinInt, math.MinInt, 0, false},
		{"Sub", Sub, most + 1, most + 1, 0, false},
		{"Mul", Mul, -3, 4, -12, true},
		{"Mul", Mul, 1 << 31, 1 << 31, most, true},
		{"Mul", Mul, 1 << 31, -(1 << 31), -most, true},
		{"Mul", Mul, 1<<31 + 1, 1 << 31, 0, false},
		{"Mul", Mul, most, -1, -most, true},
		{"Mul", Mul, most, 0, 0, true},
		{"Mul", Mul, 0, -most, 0, true},
		{"Mul", Mul, most, 2, 0, false},
		{"Mul", Mul, most, 4, 0, false}, // wraps round to 0
		{"Mul", Mul, most, most, 0, false},
		{"Mul", Mul, most + 1, 0, 0, false},
		{"Mul", Mul, 0, most + 1, 0, false},
		{"Mul", Mul, math.MinInt, 1, 0, false},
		{"Mul", Mul, math.MinInt, -1, 0, false},
		{"Mul", Mul, 0, math.MinInt, 0, false},
	} {
		if n, ok := x.f(x.a, x.b); n != x.want || ok != x.ok {
			t.Errorf("%s(%d, %d): %d %v, want %d %v", x.name, x.a, x.b, n, ok, x.want, x.ok)
		}
	}
}

// P1.2.
func TestDot(t *testing.T) {
	for _, x := range []struct {
		a, b []int
		want int
		ok   bool
	}{
		{nil, nil, 0, true},
		{nil, []int{}, 0, true},
		{[]int{5}, []int{-7}, -35, true},
		{[]int{1, 2, 3}, []int{4, 5, 6}, 32, true},
		{[]int{1}, nil, 0, false},
		{nil, []int{0}, 0, false},
		{[]int{1, 2}, []int{1, 2, 0}, 0, false},
		{[]int{most, -1}, []int{1, 1}, most - 1, true},
		{[]int{most, -most, most}, []int{1, 1, 1}, most, true},
		{[]int{-most, most}, []int{1, -1}, 0, false},
		{[]int{most, 1, -1}, []int{1, 1, 1}, 0, false},   // too much on the way, not at the end
		{[]int{most, -1, 1}, []int{1, 1, 1}, most, true}, // the same items in another order
		{[]int{most, most, 1}, []int{2, -2, 1}, 0, false},
		{[]int{most, most, most, most}, []int{1, 1, 1, 1}, 0, false}, // wraps round to 0
		{[]int{most + 1}, []int{0}, 0, false},
		{[]int{0}, []int{math.MinInt}, 0, false},
		{[]int{0, most}, []int{most, 0}, 0, true},
	} {
		if n, ok := Dot(x.a, x.b); n != x.want || ok != x.ok {
			t.Errorf("Dot(%v, %v): %d %v, want %d %v", x.a, x.b, n, ok, x.want, x.ok)
		}
	}
}

// P1.2: it is Mul, then Add, item by item, whatever the items are.
func TestDotIsMulThenAdd(t *testing.T) {
	step := func(total int, ok bool, x, y int) (int, bool) {
		p, okp := Mul(x, y)
		if !ok || !okp {
			return 0, false
		}
		return Add(total, p)
	}
	ps := pairs()
	for i, p := range ps {
		q, r := ps[(i*7+3)%len(ps)], ps[(i*31+11)%len(ps)]
		a, b := []int{p[0], q[0], r[0]}, []int{p[1], q[1], r[1]}
		want, wantOK := 0, true
		for j := range a {
			want, wantOK = step(want, wantOK, a[j], b[j])
		}
		if n, ok := Dot(a, b); n != want || ok != wantOK {
			t.Errorf("Dot(%v, %v): %d %v, want %d %v", a, b, n, ok, want, wantOK)
		}
	}
}

// R4: what is handed in stays, the room behind it too.
func TestDotLeavesItsLists(t *testing.T) {
	a, b := []int{1, 2, 3, 8, 9}, []int{4, 5, 6, 7, 7}
	Dot(a[:3], b[:3])
	if !slices.Equal(a, []int{1, 2, 3, 8, 9}) || !slices.Equal(b, []int{4, 5, 6, 7, 7}) {
		t.Error(a, b)
	}
}

// quotientError is what forbids dividing; what is not small is named first.
func quotientError(a, b int) api.Errno {
	switch {
	case !isSmall(big.NewInt(int64(a))), !isSmall(big.NewInt(int64(b))):
		return api.ErrIntsBig
	case b == 0:
		return api.ErrArg
	}
	return api.OK
}

// exactQuotient is a / b cut down and cut up, from numbers without bounds.
func exactQuotient(a, b int) (floor, ceil int) {
	n, d := big.NewInt(int64(a)), big.NewInt(int64(b))
	if b < 0 {
		n.Neg(n)
		d.Neg(d)
	}
	q, m := new(big.Int).DivMod(n, d, new(big.Int)) // of a divisor above 0 the rest is not below 0
	floor = int(q.Int64())
	if m.Sign() == 0 {
		return floor, floor
	}
	return floor, floor + 1
}

// P1.3, of Floor and Ceil, against numbers without bounds.
func TestQuotientsAreExact(t *testing.T) {
	for _, p := range pairs() {
		a, b := p[0], p[1]
		wantErr := quotientError(a, b)
		floor, ceil := 0, 0
		if wantErr == api.OK {
			floor, ceil = exactQuotient(a, b)
		}
		if n, e := Floor(a, b); n != floor || e != wantErr {
			t.Errorf("Floor(%d, %d): %d %d, want %d %d", a, b, n, e, floor, wantErr)
		}
		if n, e := Ceil(a, b); n != ceil || e != wantErr {
			t.Errorf("Ceil(%d, %d): %d %d, want %d %d", a, b, n, e, ceil, wantErr)
		}
	}
}

// P1.3, the edges of Floor and Ceil, written out.
func TestQuotientsAtTheEdges(t *testing.T) {
	for _, x := range []struct {
		a, b, floor, ceil int
		e                 api.Errno
	}{
		{7, 2, 3, 4, api.OK},
		{-7, 2, -4, -3, api.OK},
		{7, -2, -4, -3, api.OK},
		{-7, -2, 3, 4, api.OK},
		{6, -3, -2, -2, api.OK},
		{0, -9, 0, 0, api.OK},
		{1, most, 0, 1, api.OK},
		{-1, most, -1, 0, api.OK},
		{1, -most, -1, 0, api.OK},
		{most, -1, -most, -most, api.OK},
		{-most, -1, most, most, api.OK},
		{-most, most, -1, -1, api.OK},
		{5, 0, 0, 0, api.ErrArg},
		{0, 0, 0, 0, api.ErrArg},
		{-most, 0, 0, 0, api.ErrArg},
		{most + 1, 0, 0, 0, api.ErrIntsBig},
		{-most - 1, 0, 0, 0, api.ErrIntsBig},
		{math.MinInt, -1, 0, 0, api.ErrIntsBig},
		{1, most + 1, 0, 0, api.ErrIntsBig},
		{0, math.MinInt, 0, 0, api.ErrIntsBig},
	} {
		if n, e := Floor(x.a, x.b); n != x.floor || e != x.e {
			t.Errorf("Floor(%d, %d): %d %d, want %d %d", x.a, x.b, n, e, x.floor, x.e)
		}
		if n, e := Ceil(x.a, x.b); n != x.ceil || e != x.e {
			t.Errorf("Ceil(%d, %d): %d %d, want %d %d", x.a, x.b, n, e, x.ceil, x.e)
		}
	}
}

// P1.3, of Gcd.
func TestGcd(t *testing.T) {
	for _, x := range []struct {
		a, b, want int
		e          api.Errno
	}{
		{12, 18, 6, api.OK},
		{12, -18, 6, api.OK},
		{-12, -18, 6, api.OK},
		{7, 5, 1, api.OK},
		{0, 0, 0, api.OK},
		{0, -5, 5, api.OK},
		{-5, 0, 5, api.OK},
		{-most, 0, most, api.OK},
		{most, -most, most, api.OK},
		{most, 1 << 40, 1 << 40, api.OK},
		{most, most - 1, 1, api.OK},
		{most + 1, 0, 0, api.ErrIntsBig},
		{0, -most - 1, 0, api.ErrIntsBig},
		{math.MinInt, 0, 0, api.ErrIntsBig},
		{6, math.MinInt, 0, api.ErrIntsBig},
	} {
		if n, e := Gcd(x.a, x.b); n != x.want || e != x.e {
			t.Errorf("Gcd(%d, %d): %d %d, want %d %d", x.a, x.b, n, e, x.want, x.e)
		}
	}
	for _, p := range pairs() {
		a, b := big.NewInt(int64(p[0])), big.NewInt(int64(p[1]))
		if !isSmall(a) || !isSmall(b) {
			if n, e := Gcd(p[0], p[1]); n != 0 || e != api.ErrIntsBig {
				t.Errorf("Gcd(%d, %d): %d %d", p[0], p[1], n, e)
			}
			continue
		}
		want := int(new(big.Int).GCD(nil, nil, a.Abs(a), b.Abs(b)).Int64())
		if n, e := Gcd(p[0], p[1]); n != want || e != api.OK {
			t.Errorf("Gcd(%d, %d): %d %d, want %d", p[0], p[1], n, e, want)
		}
	}
}

// P1.4: what is added and taken away again is as it was.
func TestAddThenSub(t *testing.T) {
	for _, p := range pairs() {
		if s, ok := Add(p[0], p[1]); ok {
			if back, ok := Sub(s, p[1]); !ok || back != p[0] {
				t.Errorf("%d, with %d added and taken away: %d %v", p[0], p[1], back, ok)
			}
		}
		if s, ok := Sub(p[0], p[1]); ok {
			if back, ok := Add(s, p[1]); !ok || back != p[0] {
				t.Errorf("%d, with %d taken away and added: %d %v", p[0], p[1], back, ok)
			}
		}
	}
}

// P1.4: Floor times b is not above a, and a is less than b more (b above 0).
func TestFloorTimesDivisor(t *testing.T) {
	for _, p := range pairs() {
		q, e := Floor(p[0], p[1])
		if e != api.OK || p[1] < 0 {
			continue
		}
		a, b := big.NewInt(int64(p[0])), big.NewInt(int64(p[1]))
		low := new(big.Int).Mul(big.NewInt(int64(q)), b)
		if low.Cmp(a) > 0 || a.Cmp(new(big.Int).Add(low, b)) >= 0 {
			t.Errorf("Floor(%d, %d): %d", p[0], p[1], q)
		}
	}
}

func divides(d, n int) bool {
	if d == 0 {
		return n == 0
	}
	return n%d == 0
}

// P1.4: Gcd divides both; what divides both divides it.
func TestGcdDividesAndIsDivided(t *testing.T) {
	for _, p := range pairs() {
		g, e := Gcd(p[0], p[1])
		if e != api.OK {
			continue
		}
		if g < 0 || !divides(g, p[0]) || !divides(g, p[1]) {
			t.Errorf("Gcd(%d, %d): %d", p[0], p[1], g)
		}
		for d := 1; d <= 64; d++ {
			if divides(d, p[0]) && divides(d, p[1]) && !divides(d, g) {
				t.Errorf("%d divides %d and %d, not %d", d, p[0], p[1], g)
			}
		}
	}
}
