package num

import "cmp"

// This file reckons with rows of digits to the base 10^9, the least significant first: with absolute values. A row in an Int, and one that is answered here, ends with no zero, unless a function says so.

const (
	base  = 1_000_000_000
	width = 9 // decimal digits in one digit
)

// trim is l without the zeros behind its most significant digit. Its capacity ends with it, so that nobody who appends to it gets at the zeros.
func trim(l []uint32) []uint32 {
	n := len(l)
	for n > 0 && l[n-1] == 0 {
		n--
	}
	return l[:n:n]
}

// copied is a copy of l. Its capacity is its length, however much memory there is behind it.
func copied(l []uint32) []uint32 {
	c := append([]uint32(nil), l...)
	return c[:len(l):len(l)]
}

// compare is -1, 0 or 1 if a is less than, equal to, or greater than b.
func compare(a, b []uint32) int {
	if len(a) != len(b) {
		return cmp.Compare(len(a), len(b))
	}
	for i := range len(a) {
		at := len(a) - 1 - i
		if a[at] != b[at] {
			return cmp.Compare(a[at], b[at])
		}
	}
	return 0
}

// sum is a + b.
func sum(a, b []uint32) []uint32 {
	if len(a) < len(b) {
		a, b = b, a
	}
	l := make([]uint32, len(a)+1)
	copy(l, a)
	addTo(l, b)
	return trim(l)
}

// addTo adds b to l, which has at least as many digits. What is carried beyond l is lost.
func addTo(l, b []uint32) {
	carry := uint32(0)
	for i := range len(l) {
		s := l[i] + carry
		if i < len(b) {
			s += b[i]
		}
		l[i], carry = s%base, s/base
	}
}

// difference is a - b, where b is not greater than a.
func difference(a, b []uint32) []uint32 {
	l := copied(a)
	takeFrom(l, b, 1)
	return trim(l)
}

// takeFrom subtracts factor times b from l, which has at least as many digits, and reports whether l was too small: then base to the power of len(l) is added.
func takeFrom(l, b []uint32, factor uint32) bool {
	owed := uint64(0)
	for i := range len(l) {
		if i < len(b) {
			owed += uint64(factor) * uint64(b[i])
		}
		low := uint32(owed % base)
		owed /= base
		if l[i] < low {
			l[i] += base
			owed++
		}
		l[i] -= low
	}
	return owed > 0
}

// product is a * b.
func product(a, b []uint32) []uint32 {
	l := make([]uint32, len(a)+len(b))
	for i := range len(a) {
		addTimes(l[i:], b, a[i])
	}
	return trim(l)
}

// addTimes adds factor times b to l, whose digits from the one behind those of b on are still 0.
func addTimes(l, b []uint32, factor uint32) {
	carry := uint64(0)
	for i := range len(b) {
		s := uint64(l[i]) + uint64(factor)*uint64(b[i]) + carry
		l[i], carry = uint32(s%base), s/base
	}
	l[len(b)] = uint32(carry)
}

// times is factor * a, with one digit more than a has, which may be 0.
func times(a []uint32, factor uint32) []uint32 {
	l := make([]uint32, len(a)+1)
	addTimes(l, a, factor)
	return l
}

// divide is the quotient and the remainder of a and b, which is not 0.
func divide(a, b []uint32) (quotient, rest []uint32) {
	switch {
	case compare(a, b) < 0:
		return nil, copied(a)
	case len(b) == 1:
		return divideByDigit(a, b[0])
	}
	return divideLong(a, b)
}

// divideByDigit is the quotient and the remainder of a and the digit d, which is not 0.
func divideByDigit(a []uint32, d uint32) (quotient, rest []uint32) {
	l := make([]uint32, len(a))
	left := uint64(0)
	for i := range len(a) {
		at := len(a) - 1 - i
		left = left*base + uint64(a[at])
		l[at], left = uint32(left/uint64(d)), left%uint64(d)
	}
	return trim(l), trim([]uint32{uint32(left)})
}

// divideLong is the quotient and the remainder of a and b, which has two digits or more and is not greater than a. Both are multiplied by one factor that makes the first digit of the divisor base/2 or more: without that, guess could be far off.
func divideLong(a, b []uint32) (quotient, rest []uint32) {
	n := len(b)
	factor := base / (b[n-1] + 1)
	left, divisor := times(a, factor), trim(times(b, factor))
	l := make([]uint32, len(left)-n)
	for i := range len(l) {
		at := len(l) - 1 - i
		l[at] = nextDigit(left[at:at+n+1], divisor)
	}
	rest, _ = divideByDigit(left[:n], factor)
	return trim(l), rest
}

// nextDigit is the quotient of left and divisor, where that is one digit. It subtracts the divisor that many times from left.
func nextDigit(left, divisor []uint32) uint32 {
	q := guess(left, divisor)
	if takeFrom(left, divisor, q) {
		q--
		addTo(left, divisor)
	}
	return q
}

// guess is the quotient of the first three digits of left and the first two of the divisor. Since the divisor is at least half as great as it may be, that is the quotient of left and divisor, or 1 more (and so at most base).
func guess(left, divisor []uint32) uint32 {
	n := len(divisor)
	first, second := uint64(divisor[n-1]), uint64(divisor[n-2])
	top := uint64(left[n])*base + uint64(left[n-1])
	q, rest := top/first, top%first
	for rest < base && q*second > rest*base+uint64(left[n-2]) {
		q--
		rest += first
	}
	return uint32(q)
}
