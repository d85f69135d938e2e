// Package ints is layer 1: numbers that are watched: see shared/doc/01-ints.md.
package ints

import "secateur/api"

// Add is a plus b; false: one of the three is not small.
func Add(a, b int) (int, bool) { return sum(a, b) }

// Sub is a less b; false: one of the three is not small.
func Sub(a, b int) (int, bool) {
	// -b is small just where b is, for the least int is its own opposite.
	return sum(a, -b)
}

// Mul is a times b; false: one of the three is not small.
func Mul(a, b int) (int, bool) {
	if !small(a) || !small(b) {
		return 0, false
	}
	// Asked ahead of multiplying: a product that wrapped round could look small.
	if b != 0 && size(a) > api.Most/size(b) {
		return 0, false
	}
	return a * b, true
}

// Dot is the sum of the products of two lists, item by item; false: they are not as long as one another, or a product or a sum on the way is not small.
func Dot(a, b []int) (int, bool) {
	if len(a) != len(b) {
		return 0, false
	}
	products := make([]int, len(a))
	for i := range a {
		p, ok := Mul(a[i], b[i])
		if !ok {
			return 0, false
		}
		products[i] = p
	}
	return sum(products...)
}

// Floor is the greatest number that is not above a / b.
func Floor(a, b int) (int, api.Errno) {
	if e := checkQuotient(a, b); e != api.OK {
		return 0, e
	}
	q := a / b
	// Go cuts towards 0, which is upwards where the quotient is below 0.
	if a%b != 0 && (a < 0) != (b < 0) {
		q--
	}
	return q, api.OK
}

// Ceil is the least number that is not below a / b.
func Ceil(a, b int) (int, api.Errno) {
	if e := checkQuotient(a, b); e != api.OK {
		return 0, e
	}
	q := a / b
	// Go cuts towards 0, which is downwards where the quotient is above 0.
	if a%b != 0 && (a < 0) == (b < 0) {
		q++
	}
	return q, api.OK
}

// Gcd is the greatest number that divides both, 0 of 0 and 0.
func Gcd(a, b int) (int, api.Errno) {
	if !small(a) || !small(b) {
		return 0, api.ErrIntsBig
	}
	a, b = size(a), size(b)
	for b != 0 {
		a, b = b, a%b
	}
	return a, api.OK
}

// sum adds numbers from 0 on; false: one of them, or a sum on the way, is not small.
func sum(numbers ...int) (int, bool) {
	total := 0
	for _, n := range numbers {
		if !small(n) {
			return 0, false
		}
		// Of two small numbers only 2^63 wraps round, to the least int, which is not small either.
		total += n
		if !small(total) {
			return 0, false
		}
	}
	return total, true
}

// checkQuotient tells what forbids dividing a by b.
func checkQuotient(a, b int) api.Errno {
	if !small(a) || !small(b) {
		return api.ErrIntsBig
	}
	if b == 0 {
		return api.ErrArg
	}
	return api.OK
}

func small(n int) bool { return -api.Most <= n && n <= api.Most }

// size is a small number without its sign.
func size(n int) int {
	if n < 0 {
		return -n
	}
	return n
}
