// Package round is layer 1: see shared/doc/01-round.md.
package round

import "math"

const maxShift = 62

// bring is the number of the range that is nearest to x.
func bring[N int8 | int32 | int](x int64, low, high N) N {
	return N(min(max(x, int64(low)), int64(high)))
}

// Wrap is a sum, wrapped.
func Wrap(xs ...int64) int32 {
	// 2^32 divides 2^64: what the sum loses beyond 64 bits doesn't reach the low 32.
	var sum int64
	for _, x := range xs {
		sum += x
	}
	return int32(sum)
}

// Sat8 brings a number to the range of 8 bits.
func Sat8(x int64) int8 { return bring[int8](x, math.MinInt8, math.MaxInt8) }

// Sat32 brings a number to the range of 32 bits.
func Sat32(x int64) int32 { return bring[int32](x, math.MinInt32, math.MaxInt32) }

// Shift shifts a number down, to the nearest one, of two the even one.
func Shift(x int64, n int) int64 {
	n = bring(int64(n), 0, maxShift)
	if n == 0 {
		return x
	}
	// The shift goes down to the floor, so the rest isn't below 0, of either sign of x.
	floor := x >> n
	rest := x & (1<<n - 1)
	half := int64(1) << (n - 1)
	if rest > half || rest == half && floor&1 == 1 {
		return floor + 1
	}
	return floor
}

// product is a product, shifted down; of two numbers of 32 bits it stays within 64.
func product(x, by int32, n int) int64 { return Shift(int64(x)*int64(by), n) }

// Scale is a product, shifted down, of 32 bits.
func Scale(x, by int32, n int) int32 { return Sat32(product(x, by, n)) }

// Quant is a product, shifted down, of 8 bits.
func Quant(x, by int32, n int) int8 { return Sat8(product(x, by, n)) }

// Quants are several.
func Quants(by int32, n int, xs ...int32) []int8 {
	ys := make([]int8, len(xs))
	for i, x := range xs {
		ys[i] = Quant(x, by, n)
	}
	return ys
}

// Sum is a sum, wrapped.
func Sum(xs ...int32) int32 {
	var sum int32
	for _, x := range xs {
		sum += x
	}
	return sum
}

// Dot is the sum of products, wrapped.
func Dot(a, b []int8) int32 {
	var sum int32
	for i := range min(len(a), len(b)) {
		sum += int32(a[i]) * int32(b[i])
	}
	return sum
}

// Argmax is where the greatest one is, the first of several.
func Argmax(xs ...int32) int {
	best := -1
	for i, x := range xs {
		if best < 0 || x > xs[best] {
			best = i
		}
	}
	return best
}
