package norm

import (
	"math"
	"math/big"
	"slices"
	"testing"

	"peloton/api"
	"peloton/curve"
)

// The tests hold the package against numbers of any size, which never wrap by themselves.

// whole is a number of any size.
func whole[N int | int8 | int32 | int64](x N) *big.Int { return big.NewInt(int64(x)) }

// times is a product.
func times(a, b *big.Int) *big.Int { return new(big.Int).Mul(a, b) }

// shiftDown is x divided by 2^n: the nearest whole number, of two the even one; n stops at 0 and at 62.
func shiftDown(x *big.Int, n int) *big.Int {
	unit := new(big.Int).Lsh(whole(1), uint(min(max(n, 0), 62)))
	q, rest := new(big.Int).DivMod(x, unit, new(big.Int))
	side := rest.Lsh(rest, 1).Cmp(unit)
	if side > 0 || side == 0 && q.Bit(0) == 1 {
		q.Add(q, whole(1))
	}
	return q
}

// brought is x, brought to a range.
func brought(x *big.Int, low, high int64) int64 {
	if x.Cmp(whole(low)) < 0 {
		return low
	}
	if x.Cmp(whole(high)) > 0 {
		return high
	}
	return x.Int64()
}

// small is x, brought to the range of 8 bits.
func small(x *big.Int) int8 { return int8(brought(x, -128, 127)) }

// steady answers numbers by a fixed rule, so that a test is the same each time.
func steady(seed uint64) func() uint64 {
	return func() uint64 {
		seed = seed*6364136223846793005 + 1442695040888963407
		return seed ^ seed>>29
	}
}

// any8 are numbers by next, of all 8 bits.
func any8(next func() uint64, n int) []int8 {
	xs := make([]int8, n)
	for i := range xs {
		xs[i] = int8(next() >> 16)
	}
	return xs
}

// any32 are numbers by next, of few bits and of many.
func any32(next func() uint64, n int) []int32 {
	xs := make([]int32, n)
	for i := range xs {
		xs[i] = int32(next()) >> (next() % 32)
	}
	return xs
}

// all are so many numbers that are all the same.
func all[N int8 | int32](n int, x N) []N { return slices.Repeat([]N{x}, n) }

// want holds a list that came without an error against what is wanted.
func want[N int8 | int32](t *testing.T, what string, wanted, got []N, e api.Errno) {
	t.Helper()
	if e != api.OK || !slices.Equal(got, wanted) {
		t.Errorf("%s: %v and %d, not %v", what, got[:min(len(got), 20)], e, wanted[:min(len(wanted), 20)])
	}
}

// refused holds a list against ErrShape; it is none.
func refused[N int8 | int32](t *testing.T, what string, got []N, e api.Errno) {
	t.Helper()
	if e != api.ErrShape || len(got) != 0 {
		t.Errorf("%s: %d numbers, and %d", what, len(got), e)
	}
}

// good answers what came without an error.
func good[A any](t *testing.T) func(A, api.Errno) A {
	return func(a A, e api.Errno) A {
		t.Helper()
		if e != api.OK {
			t.Fatalf("nothing: error %d", e)
		}
		return a
	}
}

// normWhole is Norm of rows of one width, reckoned as the chapter says.
func normWhole(gains []int8, xs []int32) []int8 {
	if len(xs) == 0 {
		return nil
	}
	sum := whole(0)
	near := make([]*big.Int, len(xs))
	for i, x := range xs {
		near[i] = whole(brought(whole(x), -8388608, 8388607))
		sum.Add(sum, times(near[i], near[i]))
	}
	mean := sum.Quo(sum, whole(len(xs)))
	inverse := new(big.Int).SetUint64(curve.Inverse(mean.Uint64()))
	ys := make([]int8, len(xs))
	for i, x := range near {
		ys[i] = small(shiftDown(times(times(x, inverse), whole(gains[i])), 23))
	}
	return ys
}

// softmaxWhole is Softmax, reckoned as the chapter says.
func softmaxWhole(by int32, n int, xs []int32) []int32 {
	if len(xs) == 0 {
		return nil
	}
	greatest := whole(slices.Max(xs))
	powers := make([]int32, len(xs))
	for i, x := range xs {
		less := new(big.Int).Sub(whole(x), greatest)
		powers[i] = curve.Exp(shiftDown(times(less, whole(by)), n).Int64())
	}
	return curve.Shares(65536, powers...)
}

// mixWhole is Mix of some rows of one width, reckoned as the chapter says.
func mixWhole(weights []int32, rows [][]int8) []int8 {
	ys := make([]int8, len(rows[0]))
	for place := range ys {
		sum := whole(0)
		for i, row := range rows {
			sum.Add(sum, times(whole(row[place]), whole(weights[i])))
		}
		ys[place] = small(shiftDown(sum, 16))
	}
	return ys
}

// joinWhole is Join of rows of one width, reckoned as the chapter says.
func joinWhole(x, y []int32, by int32, n int) []int32 {
	z := make([]int32, len(x))
	for i := range z {
		scaled := brought(shiftDown(times(whole(y[i]), whole(by)), n), math.MinInt32, math.MaxInt32)
		sum := times(whole(1), whole(int64(x[i])+scaled))
		// The rest by 2^32 isn't below 0, of either sign.
		rest := sum.Mod(sum, new(big.Int).Lsh(whole(1), 32))
		if rest.Cmp(whole(math.MaxInt32)) > 0 {
			rest.Sub(rest, new(big.Int).Lsh(whole(1), 32))
		}
		z[i] = int32(rest.Int64())
	}
	return z
}

func TestP51NormOfExamples(t *testing.T) {
	for _, c := range []struct {
		gains []int8
		xs    []int32
		want  []int8
	}{
		{[]int8{16, 16}, []int32{300, -300}, []int8{32, -32}},
		{nil, nil, nil},
		{[]int8{}, nil, nil},
		{nil, []int32{}, nil},
		{[]int8{16, -16, 127}, []int32{0, 0, 0}, []int8{0, 0, 0}},
		{[]int8{-128}, []int32{0}, []int8{0}},
		// The mean square is 25, Inverse 3355443: a number by its size is nearly one, and one is 2 to a gain.
		{[]int8{16}, []int32{5}, []int8{32}},
		{[]int8{16}, []int32{-5}, []int8{-32}},
		{[]int8{-16}, []int32{-5}, []int8{32}},
		{[]int8{0}, []int32{5}, []int8{0}},
		{[]int8{1}, []int32{5}, []int8{2}},
		// Both ends of 8 bits.
		{[]int8{63}, []int32{5}, []int8{126}},
		{[]int8{64}, []int32{5}, []int8{127}},
		{[]int8{65}, []int32{5}, []int8{127}},
		{[]int8{127}, []int32{5}, []int8{127}},
		{[]int8{-63}, []int32{5}, []int8{-126}},
		{[]int8{-64}, []int32{5}, []int8{-128}},
		{[]int8{-65}, []int32{5}, []int8{-128}},
		{[]int8{-128}, []int32{5}, []int8{-128}},
		{[]int8{-128}, []int32{-5}, []int8{127}},
		{[]int8{127}, []int32{-5}, []int8{-128}},
		// The mean square is without its rest: 0, 0, 1, and 16, of which Inverse is 4194304, half of 2^23.
		{[]int8{16, 16}, []int32{1, 0}, []int8{32, 0}},
		{[]int8{3, 5, 7, 9}, []int32{1, -1, 0, 1}, []int8{6, -10, 0, 18}},
		{[]int8{8, 8}, []int32{1, -1}, []int8{16, -16}},
		{[]int8{1, 1, 1}, []int32{1, 7, 0}, []int8{0, 4, 0}},
		{[]int8{3, 3, 3}, []int32{1, 7, 0}, []int8{2, 10, 0}},
		{[]int8{5, 5, 5}, []int32{1, 7, 0}, []int8{2, 18, 0}},
		{[]int8{-1, -1, -1}, []int32{1, 7, 0}, []int8{0, -4, 0}},
		{[]int8{-3, -3, -3}, []int32{1, 7, 0}, []int8{-2, -10, 0}},
		{[]int8{37, -37, 9}, []int32{1, 7, 0}, []int8{18, -128, 0}},
		// Of four numbers one has all the size: twice its share.
		{[]int8{16, 16, 16, 16}, []int32{1 << 30, 0, 0, 0}, []int8{64, 0, 0, 0}},
	} {
		got, e := Norm(c.gains, c.xs)
		want(t, "Norm", c.want, got, e)
	}
}

// The second and third numbers are so chosen that the mean square of 2^23 less 1 with them is hardly below a ninth of 2^48, and that of 2^23 above it: Inverse is 3 and 2.
func TestP51NormBringsToItsRangeAtBothEnds(t *testing.T) {
	gains := []int8{16, 16, 16, 16}
	for _, c := range []struct {
		x    int32
		want []int8
	}{
		{8388606, []int8{48, 42, 0, 0}},
		{8388607, []int8{48, 42, 0, 0}},
		{8388608, []int8{48, 42, 0, 0}},
		{8388609, []int8{48, 42, 0, 0}},
		{1 << 24, []int8{48, 42, 0, 0}},
		{math.MaxInt32, []int8{48, 42, 0, 0}},
		{-8388606, []int8{-48, 42, 0, 0}},
		{-8388607, []int8{-48, 42, 0, 0}},
		{-8388608, []int8{-32, 28, 0, 0}},
		{-8388609, []int8{-32, 28, 0, 0}},
		{-1 << 24, []int8{-32, 28, 0, 0}},
		{math.MinInt32, []int8{-32, 28, 0, 0}},
	} {
		got, e := Norm(gains, []int32{c.x, 7398058, 278, 0})
		want(t, "Norm at an end", c.want, got, e)
	}
	got, e := Norm([]int8{16, -16, 5, 7}, []int32{math.MaxInt32, math.MaxInt32, math.MinInt32, 1 << 23})
	want(t, "Norm of both ends", normWhole([]int8{16, -16, 5, 7}, []int32{8388607, 8388607, -8388608, 8388607}), got, e)
}

// ends are numbers at, beside and beyond the ends of a row's range and of 32 bits.
func ends() []int32 {
	return []int32{0, 1, -1, 2, -3, 100, -300, 8388606, 8388607, 8388608, 8388609, -8388607, -8388608, -8388609, 1 << 24, -1 << 24, math.MaxInt32, math.MinInt32, math.MaxInt32 - 1, math.MinInt32 + 1}
}

// gainsOf are gains at both ends of 8 bits and between.
func gainsOf(next func() uint64, n int) []int8 {
	gains := any8(next, n)
	for i := range gains {
		if next()%4 == 0 {
			gains[i] = []int8{-128, 127, -1, 0, 1, 16}[next()%6]
		}
	}
	return gains
}

func TestP51NormIsReckonedAsTheChapterSays(t *testing.T) {
	next := steady(1)
	for _, x := range ends() {
		for _, y := range ends() {
			for _, xs := range [][]int32{{x}, {x, y}, {x, y, 1}, {x, x, y, y}, {x, 0, 0, 0, y, 0, 0}} {
				gains := gainsOf(next, len(xs))
				got, e := Norm(gains, xs)
				want(t, "Norm of ends", normWhole(gains, xs), got, e)
			}
		}
	}
	for range 5000 {
		xs := any32(next, int(next()%20))
		gains := gainsOf(next, len(xs))
		got, e := Norm(gains, xs)
		want(t, "Norm", normWhole(gains, xs), got, e)
	}
}

func TestP51NormOfTheWidestRows(t *testing.T) {
	next := steady(2)
	for _, width := range []int{4095, 4096} {
		for _, x := range ends() {
			gains := gainsOf(next, width)
			got, e := Norm(gains, all(width, x))
			want(t, "Norm of the widest", normWhole(gains, all(width, x)), got, e)
		}
		// One number has all the size: it is 64 times what it is where all have it.
		xs := make([]int32, width)
		xs[width-1] = math.MinInt32
		for _, gain := range []int8{0, 1, -1, 2, 127, -128} {
			got, e := Norm(all(width, gain), xs)
			want(t, "Norm of one among noughts", normWhole(all(width, gain), xs), got, e)
		}
		xs, gains := any32(next, width), any8(next, width)
		got, e := Norm(gains, xs)
		want(t, "Norm of any", normWhole(gains, xs), got, e)
	}
	got, e := Norm(all[int8](4096, 16), all[int32](4096, math.MinInt32))
	want(t, "Norm of the least ones", all[int8](4096, -32), got, e)
	got, e = Norm(all[int8](4096, 16), all[int32](4096, math.MaxInt32))
	want(t, "Norm of the greatest ones", all[int8](4096, 32), got, e)
	got, e = Norm(all[int8](4096, 127), make([]int32, 4096))
	want(t, "Norm of noughts", make([]int8, 4096), got, e)
}

func TestP51NormOfWhatHasNoShape(t *testing.T) {
	for _, c := range [][2]int{{0, 1}, {1, 0}, {1, 2}, {2, 1}, {3, 2}, {4095, 4096}, {4096, 4095}, {0, 4096}, {4096, 0}, {4096, 4097}, {4097, 4096}, {4097, 4097}, {4098, 4098}, {0, 4097}, {4097, 0}, {1 << 16, 1 << 16}} {
		for _, x := range []int32{0, 300, math.MinInt32} {
			got, e := Norm(all[int8](c[0], 16), all(c[1], x))
			refused(t, "Norm", got, e)
		}
	}
}

func TestP52SoftmaxOfExamples(t *testing.T) {
	for _, c := range []struct {
		by   int32
		n    int
		xs   []int32
		want []int32
	}{
		{65536, 0, []int32{5, 5}, []int32{32768, 32768}},
		{65536, 0, []int32{9, 8}, []int32{47910, 17625}},
		{65536, 0, []int32{8, 9}, []int32{17625, 47910}},
		{65536, 0, nil, nil},
		{65536, 0, []int32{}, nil},
		{math.MinInt32, math.MinInt, nil, nil},
		{65536, 0, []int32{-7}, []int32{65536}},
		{-65536, 0, []int32{-7}, []int32{65536}},
		{0, 0, []int32{math.MinInt32}, []int32{65536}},
		{65536, 0, []int32{7, 7, 7}, []int32{21845, 21845, 21845}},
		{65536, 0, []int32{math.MinInt32, math.MinInt32, math.MinInt32, math.MinInt32}, []int32{16384, 16384, 16384, 16384}},
		// The least and the greatest of 32 bits are less than 2^32 apart, and more than 2^31.
		{65536, 0, []int32{math.MaxInt32, math.MinInt32}, []int32{65536, 0}},
		{1, 0, []int32{math.MinInt32, math.MaxInt32}, []int32{0, 65536}},
		{1, 16, []int32{math.MinInt32, math.MaxInt32}, []int32{17625, 47910}},
		{math.MaxInt32, 0, []int32{math.MinInt32, 0, math.MaxInt32}, []int32{0, 0, 65536}},
		{math.MaxInt32, 47, []int32{math.MinInt32, math.MaxInt32}, []int32{17625, 47910}},
		{math.MaxInt32, 62, []int32{math.MaxInt32, math.MinInt32}, []int32{32768, 32767}},
		{math.MaxInt32, 63, []int32{math.MaxInt32, math.MinInt32}, []int32{32768, 32767}},
		{math.MaxInt32, math.MaxInt, []int32{math.MaxInt32, math.MinInt32}, []int32{32768, 32767}},
		// by 0, all are alike; by below 0 none comes to more than one.
		{0, 0, []int32{1, 2, 3}, []int32{21845, 21845, 21845}},
		{0, 62, []int32{math.MinInt32, math.MaxInt32}, []int32{32768, 32768}},
		{-65536, 0, []int32{9, 8}, []int32{32768, 32768}},
		{-1, 0, []int32{9, 8, 7}, []int32{21845, 21845, 21845}},
		{math.MinInt32, 0, []int32{math.MinInt32, math.MaxInt32}, []int32{32768, 32768}},
		{math.MinInt32, 62, []int32{math.MinInt32, math.MaxInt32}, []int32{32768, 32768}},
		// n below 0 is as 0; halves go to the even one: of -1 halved it is 0, of -3 halved -2.
		{65536, -1, []int32{9, 8}, []int32{47910, 17625}},
		{65536, math.MinInt, []int32{9, 8}, []int32{47910, 17625}},
		{1, 1, []int32{0, -1}, []int32{32768, 32768}},
		{1, 1, []int32{0, -2}, []int32{32768, 32767}},
		{65536, 16, []int32{0, -65536}, []int32{47910, 17625}},
		{64, 0, []int32{1024, 0}, []int32{47910, 17625}},
	} {
		if got := Softmax(c.by, c.n, c.xs...); !slices.Equal(got, c.want) {
			t.Errorf("Softmax(%d, %d, %d): %d, not %d", c.by, c.n, c.xs, got, c.want)
		}
	}
}

// scores are lists for weights: of none, of one, of ends, alike ones, any.
func scores() [][]int32 {
	next := steady(3)
	lists := [][]int32{
		nil, {0}, {math.MinInt32}, {math.MaxInt32}, {5, 5}, {0, -1}, {0, -3}, {9, 8, 7, 6, 5}, {1, 2, 3}, {-1, -2, -2, -1},
		{math.MinInt32, math.MaxInt32}, {math.MaxInt32, math.MinInt32}, {math.MinInt32, math.MinInt32 + 1}, {math.MaxInt32, math.MaxInt32 - 1, math.MaxInt32},
		{math.MinInt32, 0, math.MaxInt32, -1, 1}, all[int32](100, 7), all[int32](1000, math.MinInt32), append(all[int32](70000, 3), 4),
	}
	for n := range 30 {
		lists = append(lists, any32(next, n+1))
	}
	return lists
}

// bys and shifts are what a product is made with, at and beside the ends.
func bys() []int32 {
	return []int32{0, 1, -1, 3, 64, 65535, 65536, -65536, 1 << 30, math.MaxInt32 - 1, math.MaxInt32, math.MinInt32 + 1, math.MinInt32}
}

func shifts() []int {
	return []int{math.MinInt, -2, -1, 0, 1, 2, 4, 7, 15, 16, 17, 31, 32, 46, 47, 48, 61, 62, 63, 64, 65, 128, 1 << 32, math.MaxInt}
}

func TestP52SoftmaxIsReckonedAsTheChapterSays(t *testing.T) {
	for i, xs := range scores() {
		for _, by := range bys() {
			for _, n := range shifts() {
				if len(xs) > 1000 && n != 0 && n != 16 {
					continue
				}
				if !slices.Equal(Softmax(by, n, xs...), softmaxWhole(by, n, xs)) {
					t.Errorf("Softmax(%d, %d) of list %d isn't what the chapter says", by, n, i)
				}
			}
		}
	}
	next := steady(4)
	for range 5000 {
		xs := any32(next, int(next()%9))
		by, n := int32(next())>>(next()%32), int(next()%70)-4
		if got, wanted := Softmax(by, n, xs...), softmaxWhole(by, n, xs); !slices.Equal(got, wanted) {
			t.Errorf("Softmax(%d, %d, %d): %d, not %d", by, n, xs, got, wanted)
		}
	}
}

func TestP53MixOfExamples(t *testing.T) {
	for _, c := range []struct {
		weights []int32
		rows    [][]int8
		want    []int8
	}{
		{[]int32{65536}, [][]int8{{1, -2, 3}}, []int8{1, -2, 3}},
		{nil, nil, nil},
		{[]int32{}, [][]int8{}, nil},
		{[]int32{7}, [][]int8{nil}, nil},
		{[]int32{7, math.MaxInt32, -1}, [][]int8{{}, nil, {}}, nil},
		{[]int32{32768, 32768}, [][]int8{{10, -3}, {20, -4}}, []int8{15, -4}},
		{[]int32{0}, [][]int8{{127, -128}}, []int8{0, 0}},
		{[]int32{65536, 0}, [][]int8{{1, 2}, {100, -100}}, []int8{1, 2}},
		{[]int32{0, 65536, 0}, [][]int8{{1}, {-128}, {9}}, []int8{-128}},
		{[]int32{65536, 65536}, [][]int8{{100, -100, 1}, {20, -20, 2}}, []int8{120, -120, 3}},
		{[]int32{-65536}, [][]int8{{1, -2, 127, -127, -128}}, []int8{-1, 2, -127, 127, 127}},
		// Halves go to the even one.
		{[]int32{32768}, [][]int8{{1, 3, 5, 7, -1, -3, -5, -7}}, []int8{0, 2, 2, 4, 0, -2, -2, -4}},
		{[]int32{32767}, [][]int8{{1, 3, -1, -3}}, []int8{0, 1, 0, -1}},
		{[]int32{32769}, [][]int8{{1, 3, -1, -3}}, []int8{1, 2, -1, -2}},
		{[]int32{16384, 16384}, [][]int8{{1, 3}, {1, 3}}, []int8{0, 2}},
		{[]int32{21845, 21845, 21845}, [][]int8{{127, -128}, {127, -128}, {127, -128}}, []int8{127, -128}},
		// Both ends of 8 bits and beyond, by weights at both ends of 32 bits.
		{[]int32{131072}, [][]int8{{63, 64, 127, -64, -65, -128}}, []int8{126, 127, 127, -128, -128, -128}},
		{[]int32{66052}, [][]int8{{126, 127}}, []int8{127, 127}},
		{[]int32{math.MaxInt32}, [][]int8{{1, 0, -1, 127, -128}}, []int8{127, 0, -128, 127, -128}},
		{[]int32{math.MinInt32}, [][]int8{{1, 0, -1, 127, -128}}, []int8{-128, 0, 127, -128, 127}},
		// What goes far beyond on the way comes back.
		{[]int32{math.MaxInt32, math.MinInt32, 65536}, [][]int8{{100, 127}, {100, 127}, {5, -9}}, []int8{5, -9}},
		{[]int32{math.MinInt32, math.MinInt32, math.MaxInt32, math.MaxInt32}, [][]int8{{-128, 1}, {-128, 1}, {-128, 1}, {-128, 1}}, []int8{0, 0}},
		{[]int32{math.MinInt32, math.MinInt32}, [][]int8{{-128}, {127}}, []int8{127}},
	} {
		got, e := Mix(c.weights, c.rows...)
		want(t, "Mix", c.want, got, e)
	}
}

func TestP53MixIsReckonedAsTheChapterSays(t *testing.T) {
	next := steady(5)
	for i := range 3000 {
		rows := make([][]int8, 1+next()%8)
		width := int(next() % 7)
		weights := any32(next, len(rows))
		if i%2 == 0 {
			weights = Softmax(1, int(next()%8), weights...)
		}
		for k := range rows {
			rows[k] = any8(next, width)
		}
		got, e := Mix(weights, rows...)
		want(t, "Mix", mixWhole(weights, rows), got, e)
	}
}

func TestP53MixOfManyRowsOfTheEnds(t *testing.T) {
	for _, weight := range []int32{math.MinInt32, math.MaxInt32} {
		for _, x := range []int8{-128, 127} {
			rows, weights := slices.Repeat([][]int8{{x, 0, 1}}, 5000), all(5000, weight)
			got, e := Mix(weights, rows...)
			want(t, "Mix of many", mixWhole(weights, rows), got, e)
			rows, weights = append(rows, []int8{1, 2, 3}), append(weights, 65536)
			for range 5000 {
				rows, weights = append(rows, []int8{-x - 1, 0, -1}), append(weights, weight)
			}
			got, e = Mix(weights, rows...)
			want(t, "Mix of many and back", mixWhole(weights, rows), got, e)
		}
	}
}

// So many rows as may be handed in go together beyond 64 bits; here their products are summed without the rows.
func TestP53TheSumOfAMixLeavesNoBits(t *testing.T) {
	const many = 1<<25 + 3
	for _, c := range []struct {
		product, then int64
		want          int8
	}{
		{1 << 38, 0, 127}, {-1 << 38, 0, -128}, {1<<38 - 1, 0, 127}, {1<<38 + 1, 0, 127}, {-1<<38 - 1, 0, -128},
		{1 << 38, -1 << 38, 5}, {-1 << 38, 1 << 38, 5}, {1<<38 - 1, -1<<38 + 1, 5}, {65535, -65535, 5},
	} {
		var s sum
		wanted := new(big.Int)
		for _, product := range []int64{c.product, c.then} {
			for range many {
				s.add(product)
			}
			wanted.Add(wanted, times(whole(product), whole(many)))
		}
		s.add(5 << 16)
		wanted.Add(wanted, whole(5<<16))
		if got := s.down(); got != c.want || got != small(shiftDown(wanted, 16)) {
			t.Errorf("%d of %d, then of %d: %d, not %d", many, c.product, c.then, got, c.want)
		}
	}
}

func TestP53MixOfWhatHasNoShape(t *testing.T) {
	row := []int8{1, 2}
	for weights := range 6 {
		for rows := range 6 {
			if weights == rows {
				continue
			}
			got, e := Mix(all[int32](weights, 65536), slices.Repeat([][]int8{row}, rows)...)
			refused(t, "Mix of more weights or fewer", got, e)
			got, e = Mix(all[int32](weights, 65536), slices.Repeat([][]int8{nil}, rows)...)
			refused(t, "Mix of more weights or fewer, of no width", got, e)
		}
	}
	for _, other := range [][]int8{nil, {}, {1}, {1, 2, 3}, make([]int8, 4096)} {
		for n := 2; n < 6; n++ {
			for at := range n {
				rows := slices.Repeat([][]int8{row}, n)
				rows[at] = other
				for _, weights := range []int{n, n - 1, n + 1, 0} {
					got, e := Mix(all[int32](weights, 65536), rows...)
					refused(t, "Mix of rows that differ", got, e)
				}
			}
		}
	}
	got, e := Mix([]int32{0, 0}, nil, []int8{0})
	refused(t, "Mix of none and one", got, e)
}

func TestP53GateLetsThroughWhatIsAboveNought(t *testing.T) {
	for _, c := range []struct{ xs, want []int8 }{
		{[]int8{-1, 0, 7}, []int8{0, 0, 7}},
		{nil, nil},
		{[]int8{}, nil},
		{[]int8{0}, []int8{0}},
		{[]int8{0, 0, 0}, []int8{0, 0, 0}},
		{[]int8{-128, 127, -127, 126, 1, -1}, []int8{0, 127, 0, 126, 1, 0}},
		{make([]int8, 5000), make([]int8, 5000)},
	} {
		if got := Gate(c.xs...); !slices.Equal(got, c.want) {
			t.Errorf("Gate: %d, not %d", got, c.want)
		}
	}
	var xs, wanted []int8
	for x := -128; x < 128; x++ {
		xs = append(xs, int8(x))
		if x > 0 {
			wanted = append(wanted, int8(x))
		} else {
			wanted = append(wanted, 0)
		}
	}
	if got := Gate(xs...); !slices.Equal(got, wanted) {
		t.Errorf("Gate of all: %d", got)
	}
}

func TestP53JoinOfExamples(t *testing.T) {
	for _, c := range []struct {
		x, y []int32
		by   int32
		n    int
		want []int32
	}{
		{[]int32{math.MaxInt32, 5}, []int32{8, -9}, 1, 2, []int32{math.MinInt32 + 1, 3}},
		{nil, nil, 1, 1, nil},
		{[]int32{}, nil, math.MinInt32, math.MinInt, nil},
		{[]int32{1, 2, 3}, []int32{10, 20, 30}, 1, 0, []int32{11, 22, 33}},
		{[]int32{100, 100, 100, 100}, []int32{8, 24, -8, -24}, 1, 4, []int32{100, 102, 100, 98}},
		{[]int32{1, 2}, []int32{math.MaxInt32, math.MinInt32}, 0, 0, []int32{1, 2}},
		{[]int32{1, 2}, []int32{3, -4}, -2, -5, []int32{-5, 10}},
		// What is brought down stops at the ends, the sum wraps.
		{[]int32{0, 0, 1, -1}, []int32{math.MaxInt32, math.MinInt32, math.MaxInt32, math.MinInt32}, 2, 0, []int32{math.MaxInt32, math.MinInt32, math.MinInt32, math.MaxInt32}},
		{[]int32{math.MaxInt32, math.MinInt32}, []int32{1, -1}, 1, 0, []int32{math.MinInt32, math.MaxInt32}},
		{[]int32{math.MaxInt32, math.MinInt32}, []int32{math.MaxInt32, math.MinInt32}, math.MaxInt32, 0, []int32{-2, 0}},
		{[]int32{0, -1}, []int32{math.MinInt32, math.MinInt32}, math.MinInt32, 31, []int32{math.MaxInt32, math.MaxInt32 - 1}},
		{[]int32{7, 7, 7}, []int32{math.MinInt32, math.MaxInt32, math.MinInt32 / 2}, math.MinInt32, 62, []int32{8, 6, 7}},
		{[]int32{7, 7}, []int32{math.MinInt32, math.MaxInt32}, math.MinInt32, math.MaxInt, []int32{8, 6}},
	} {
		got, e := Join(c.x, c.y, c.by, c.n)
		want(t, "Join", c.want, got, e)
	}
}

func TestP53JoinIsReckonedAsTheChapterSays(t *testing.T) {
	next := steady(6)
	var x, y []int32
	for _, a := range ends() {
		for _, b := range ends() {
			x, y = append(x, a), append(y, b)
		}
	}
	for _, by := range bys() {
		for _, n := range shifts() {
			got, e := Join(x, y, by, n)
			want(t, "Join of ends", joinWhole(x, y, by, n), got, e)
			some := int(next() % 9)
			a, b := any32(next, some), any32(next, some)
			got, e = Join(a, b, by, n)
			want(t, "Join", joinWhole(a, b, by, n), got, e)
		}
	}
	for range 2000 {
		some := int(next() % 9)
		a, b := any32(next, some), any32(next, some)
		by, n := int32(next())>>(next()%32), int(next()%70)-4
		got, e := Join(a, b, by, n)
		want(t, "Join", joinWhole(a, b, by, n), got, e)
	}
	// A row that is joined may be wider than one that Norm takes.
	a, b := any32(next, 5000), any32(next, 5000)
	got, e := Join(a, b, 3, 2)
	want(t, "Join of many", joinWhole(a, b, 3, 2), got, e)
}

func TestP53JoinOfWhatHasNoShape(t *testing.T) {
	for _, c := range [][2]int{{0, 1}, {1, 0}, {1, 2}, {2, 1}, {3, 5}, {5, 3}, {0, 4097}, {4097, 4096}, {4096, 4097}} {
		for _, by := range bys() {
			got, e := Join(all[int32](c[0], 1), all[int32](c[1], 1), by, 1)
			refused(t, "Join", got, e)
		}
	}
}

func TestP54WeightsAreSharesOfOne(t *testing.T) {
	for i, xs := range scores() {
		for _, by := range bys() {
			for _, n := range []int{-1, 0, 1, 7, 16, 31, 47, 62, 63} {
				var sum int64
				ws := Softmax(by, n, xs...)
				for k, w := range ws {
					sum += int64(w)
					if w < 0 {
						t.Errorf("Softmax(%d, %d) of list %d: weight %d is %d", by, n, i, k, w)
					}
				}
				if sum > 65536 || len(ws) != len(xs) || len(xs) > 0 && 65536-sum >= int64(len(xs)) {
					t.Errorf("Softmax(%d, %d) of list %d: %d weights, %d together", by, n, i, len(ws), sum)
				}
			}
		}
	}
}

func TestP54AGreaterOneHasNoSmallerWeight(t *testing.T) {
	for i, xs := range scores() {
		sorted := slices.Sorted(slices.Values(xs))
		for _, by := range bys() {
			for _, n := range shifts() {
				if by < 0 {
					continue
				}
				if ws := Softmax(by, n, sorted...); !slices.IsSorted(ws) {
					t.Errorf("Softmax(%d, %d) of list %d, in order: %d", by, n, i, ws)
				}
			}
		}
	}
}

func TestP54AWholeWeightLeavesARowAsItIs(t *testing.T) {
	for x := -128; x < 128; x++ {
		for _, width := range []int{0, 1, 2, 7, 128} {
			row := all(width, int8(x))
			got, e := Mix([]int32{65536}, row)
			want(t, "Mix of one", row, got, e)
			got, e = Mix(Softmax(64, 0, int32(x)), row)
			want(t, "Mix of one, by Softmax", row, got, e)
			got, e = Mix(Softmax(64, 0, 9, 9, 9, 9), row, row, row, row)
			want(t, "Mix of alike ones", row, got, e)
			got, e = Mix([]int32{0, 65536, 0}, all[int8](width, 127), row, all[int8](width, -128))
			want(t, "Mix of others without a weight", row, got, e)
		}
	}
	row := any8(steady(7), 300)
	got, e := Mix([]int32{65536}, row)
	want(t, "Mix of any one", row, got, e)
}

// fenced is a copy of xs with spare room behind it, and the whole of it.
func fenced[N int8 | int32](xs ...N) ([]N, []N) {
	room := append(slices.Clone(xs), 11, 22, 33, 44, 55, 66)
	return room[:len(xs)], room
}

// given is what is handed in, each list with spare room, and all of these with it.
type given struct {
	gains, row, other []int8
	xs, ys, weights   []int32
	small             [][]int8
	wide              [][]int32
}

func handIn() given {
	in := given{small: make([][]int8, 3), wide: make([][]int32, 3)}
	in.gains, in.small[0] = fenced[int8](16, -5, 127)
	in.row, in.small[1] = fenced[int8](1, 2, 127)
	in.other, in.small[2] = fenced[int8](3, -4, -128)
	in.xs, in.wide[0] = fenced[int32](300, -300, math.MaxInt32)
	in.ys, in.wide[1] = fenced[int32](0, 0, 0)
	in.weights, in.wide[2] = fenced[int32](65536, 0)
	return in
}

// ask answers what all the calls answer, some of which could hand out what they were given.
func ask(t *testing.T, in given) ([][]int8, [][]int32) {
	small, wide := good[[]int8](t), good[[]int32](t)
	return [][]int8{
		small(Norm(in.gains, in.xs)), small(Norm(in.gains, in.ys)), small(Norm(in.gains[:1], in.xs[:1])),
		small(Mix(in.weights, in.row, in.other)), small(Mix(in.weights[:1], in.row)), small(Mix(in.weights, in.row, in.row)),
		Gate(in.row...), Gate(in.other...), Gate(in.row[:1]...),
	}, [][]int32{
		Softmax(1, 0, in.xs...), Softmax(0, 0, in.ys...), Softmax(7, 9, in.weights[:1]...),
		wide(Join(in.xs, in.ys, 1, 0)), wide(Join(in.ys, in.xs, 1, 0)), wide(Join(in.xs, in.xs, 0, 0)), wide(Join(in.xs[:1], in.weights[:1], 1, 4)),
	}
}

// copied are copies of lists.
func copied[N any](lists [][]N) [][]N {
	var copies [][]N
	for _, list := range lists {
		copies = append(copies, slices.Clone(list))
	}
	return copies
}

// spoil changes all of each list, its spare room with it.
func spoil[N int8 | int32](lists [][]N) {
	for _, list := range lists {
		room := list[:cap(list)]
		for i := range room {
			room[i] += 3
		}
	}
}

// alike holds lists against what they were.
func alike[N int8 | int32](t *testing.T, what string, were, are [][]N) {
	t.Helper()
	if !slices.EqualFunc(were, are, slices.Equal[[]N]) {
		t.Errorf("%s: %v, and were %v", what, are, were)
	}
}

func TestP54AnswersAreNewMemory(t *testing.T) {
	in := handIn()
	wereSmall, wereWide := copied(in.small), copied(in.wide)
	firstSmall, firstWide := ask(t, in)
	small, wide := copied(firstSmall), copied(firstWide)
	alike(t, "8 bits that were handed in", wereSmall, in.small)
	alike(t, "32 bits that were handed in", wereWide, in.wide)
	otherSmall, otherWide := ask(t, in)
	spoil(otherSmall)
	spoil(otherWide)
	alike(t, "8 bits that were handed in, behind a change of an answer", wereSmall, in.small)
	alike(t, "32 bits that were handed in, behind a change of an answer", wereWide, in.wide)
	nextSmall, nextWide := ask(t, in)
	alike(t, "the next answer of 8 bits", small, nextSmall)
	alike(t, "the next answer of 32 bits", wide, nextWide)
	spoil(in.small)
	spoil(in.wide)
	alike(t, "an answer of 8 bits", small, firstSmall)
	alike(t, "an answer of 32 bits", wide, firstWide)
}

func TestP54TheListOfRowsStaysAsItIs(t *testing.T) {
	rows := [][]int8{{1, 0}, {0, 1}, {7, 7}}
	got, e := Mix([]int32{65536, 131072}, rows[:2]...)
	want(t, "Mix", []int8{1, 2}, got, e)
	alike(t, "the list of rows", [][]int8{{1, 0}, {0, 1}, {7, 7}}, rows)
}

// A call that is refused has changed nothing either.
func TestP54WhatIsRefusedIsNotChanged(t *testing.T) {
	in := handIn()
	wereSmall, wereWide := copied(in.small), copied(in.wide)
	y, e := Norm(in.gains[:2], in.xs)
	refused(t, "Norm", y, e)
	y, e = Mix(in.weights, in.row, in.other[:2])
	refused(t, "Mix", y, e)
	y, e = Mix(in.weights, in.row)
	refused(t, "Mix", y, e)
	z, e := Join(in.xs, in.ys[:2], 5, 3)
	refused(t, "Join", z, e)
	alike(t, "8 bits that were handed in", wereSmall, in.small)
	alike(t, "32 bits that were handed in", wereWide, in.wide)
}
