package round

import (
	"math"
	"math/big"
	"slices"
	"testing"
)

// The tests hold the package against numbers of any size, which never wrap by themselves.

// whole is a number of any size.
func whole(x int64) *big.Int { return big.NewInt(x) }

// power is 2 to the power of n.
func power(n int) *big.Int { return new(big.Int).Lsh(whole(1), uint(n)) }

// wrapWhole is x's rest by 2^32, from -2^31 on.
func wrapWhole(x *big.Int) int32 {
	rest := new(big.Int).Mod(x, power(32))
	if rest.Cmp(power(31)) >= 0 {
		rest.Sub(rest, power(32))
	}
	return int32(rest.Int64())
}

// shiftWhole is x divided by 2^n: the nearest one, of two the even one.
func shiftWhole(x *big.Int, n int) *big.Int {
	by := power(min(max(n, 0), 62))
	q, rest := new(big.Int).DivMod(x, by, new(big.Int))
	side := rest.Lsh(rest, 1).Cmp(by)
	if side > 0 || side == 0 && q.Bit(0) == 1 {
		q.Add(q, whole(1))
	}
	return q
}

// bringWhole is the number nearest to x from low to high.
func bringWhole(x *big.Int, low, high int64) int64 {
	if x.Cmp(whole(low)) < 0 {
		return low
	}
	if x.Cmp(whole(high)) > 0 {
		return high
	}
	return x.Int64()
}

// steady answers numbers by a fixed rule, so that a test is the same each time.
func steady(seed uint64) func() uint64 {
	return func() uint64 {
		seed = seed*6364136223846793005 + 1442695040888963407
		return seed ^ seed>>29
	}
}

// wideEdges are numbers of 64 bits at and beside the ends of ranges, and halves.
func wideEdges() []int64 {
	xs := []int64{0, math.MinInt64, math.MinInt64 + 1, math.MaxInt64, math.MaxInt64 - 1}
	for n := range 63 {
		for d := int64(-1); d <= 1; d++ {
			xs = append(xs, 1<<n+d, -(1<<n)+d, 3*(1<<n)/2+d, -3*(1<<n)/2+d)
		}
	}
	return append(xs, 3<<61, -(3 << 61), 5, 7, -5, -7)
}

// edges are numbers of 32 bits at and beside the ends of ranges.
func edges() []int32 {
	return []int32{0, 1, -1, 2, -2, 3, -3, 5, 7, -40, 40, 127, 128, 129, -127, -128, -129, 255, 256, 1000, -1000, 1 << 15, 1 << 16, -(1 << 16), 1<<30 - 1, 1 << 30, -(1 << 30), math.MaxInt32, math.MaxInt32 - 1, math.MinInt32, math.MinInt32 + 1}
}

// shifts are those of the promise, and beyond both of its ends.
func shifts() []int {
	ns := []int{math.MinInt, math.MinInt + 1, -64, -2, -1, 64, 65, 127, 1 << 32, math.MaxInt}
	for n := range 64 {
		ns = append(ns, n)
	}
	return ns
}

func TestP11WrapOfOrdinaryNumbersAndEdges(t *testing.T) {
	for _, c := range []struct {
		xs   []int64
		want int32
	}{
		{nil, 0},
		{[]int64{}, 0},
		{[]int64{5}, 5},
		{[]int64{-5, 2}, -3},
		{[]int64{1<<31 - 1, 1}, -1 << 31},
		{[]int64{-1 << 31, -1}, 1<<31 - 1},
		{[]int64{1 << 31}, -1 << 31},
		{[]int64{1 << 32}, 0},
		{[]int64{1<<32 + 7}, 7},
		{[]int64{-1<<40 - 9}, -9},
		{[]int64{math.MaxInt64}, -1},
		{[]int64{math.MinInt64}, 0},
		{[]int64{math.MaxInt64, 1}, 0},
		{[]int64{math.MaxInt64, math.MaxInt64, math.MaxInt64}, -3},
		{[]int64{math.MinInt64, math.MinInt64, 11}, 11},
		{[]int64{math.MinInt64, -1}, -1},
	} {
		if y := Wrap(c.xs...); y != c.want {
			t.Errorf("Wrap(%d): %d, not %d", c.xs, y, c.want)
		}
	}
}

func TestP11WrapIsTheRestOfTheWholeSum(t *testing.T) {
	next := steady(1)
	for n := range 200 {
		sum := whole(0)
		xs := make([]int64, n)
		for i := range xs {
			xs[i] = int64(next())
			sum.Add(sum, whole(xs[i]))
		}
		if y, want := Wrap(xs...), wrapWhole(sum); y != want {
			t.Fatalf("Wrap of %d numbers: %d, not %d", n, y, want)
		}
	}
	for _, x := range wideEdges() {
		if y, want := Wrap(x), wrapWhole(whole(x)); y != want {
			t.Errorf("Wrap(%d): %d, not %d", x, y, want)
		}
	}
}

func TestP11Sum(t *testing.T) {
	for _, c := range []struct {
		xs   []int32
		want int32
	}{
		{nil, 0},
		{[]int32{}, 0},
		{[]int32{-8}, -8},
		{[]int32{1, 2, 3}, 6},
		{[]int32{math.MaxInt32, 1}, math.MinInt32},
		{[]int32{math.MinInt32, -1}, math.MaxInt32},
		{[]int32{math.MaxInt32, 1, -5}, math.MaxInt32 - 4},
		{[]int32{math.MinInt32, math.MinInt32}, 0},
		{[]int32{math.MaxInt32, math.MaxInt32, math.MaxInt32}, math.MaxInt32 - 2},
	} {
		if y := Sum(c.xs...); y != c.want {
			t.Errorf("Sum(%d): %d, not %d", c.xs, y, c.want)
		}
	}
	// A sum beyond 2^31, 64 bits wide, of which nothing may be cut off on the way.
	many := slices.Repeat([]int32{math.MaxInt32}, 1001)
	if y, want := Sum(many...), wrapWhole(new(big.Int).Mul(whole(1001), whole(math.MaxInt32))); y != want {
		t.Errorf("Sum of many: %d, not %d", y, want)
	}
}

func TestP11NumbersAreBroughtToTheirRange(t *testing.T) {
	for _, x := range append(wideEdges(), 100, -100) {
		if y, want := Sat8(x), bringWhole(whole(x), -128, 127); int64(y) != want {
			t.Errorf("Sat8(%d): %d, not %d", x, y, want)
		}
		if y, want := Sat32(x), bringWhole(whole(x), -1<<31, 1<<31-1); int64(y) != want {
			t.Errorf("Sat32(%d): %d, not %d", x, y, want)
		}
	}
	for x := int64(-300); x <= 300; x++ {
		if y, want := Sat8(x), bringWhole(whole(x), -128, 127); int64(y) != want {
			t.Errorf("Sat8(%d): %d, not %d", x, y, want)
		}
		if y := Sat32(x); int64(y) != x {
			t.Errorf("Sat32(%d): %d", x, y)
		}
	}
}

func TestP12ShiftOfTheExamplesAndHalves(t *testing.T) {
	for _, c := range []struct {
		x    int64
		n    int
		want int64
	}{
		{5, 1, 2}, {7, 1, 4}, {-5, 1, -2}, {-7, 1, -4}, {1, 1, 0}, {-1, 1, 0}, {3, 1, 2}, {-3, 1, -2},
		{2, 2, 0}, {6, 2, 2}, {10, 2, 2}, {14, 2, 4}, {-2, 2, 0}, {-6, 2, -2}, {-10, 2, -2}, {-14, 2, -4},
		{1, 2, 0}, {3, 2, 1}, {-1, 2, 0}, {-3, 2, -1}, {9, 2, 2}, {11, 2, 3}, {-9, 2, -2}, {-11, 2, -3},
		{9, 0, 9}, {-9, 0, -9}, {9, -1, 9}, {-9, math.MinInt, -9}, {math.MinInt64, -3, math.MinInt64},
		{1 << 61, 62, 0}, {1<<61 + 1, 62, 1}, {3 << 61, 62, 2}, {-1 << 61, 62, 0}, {-1<<61 - 1, 62, -1},
		{math.MaxInt64, 62, 2}, {math.MinInt64, 62, -2}, {math.MaxInt64, 63, 2}, {math.MinInt64, math.MaxInt, -2},
		{math.MaxInt64, 1, 1 << 62}, {math.MinInt64, 1, -1 << 62},
	} {
		if y := Shift(c.x, c.n); y != c.want {
			t.Errorf("Shift(%d, %d): %d, not %d", c.x, c.n, y, c.want)
		}
	}
}

func TestP12ShiftIsTheNearestEvenOne(t *testing.T) {
	next := steady(2)
	xs := wideEdges()
	for range 200 {
		xs = append(xs, int64(next()))
	}
	for _, n := range shifts() {
		for _, x := range xs {
			if y, want := Shift(x, n), shiftWhole(whole(x), n); want.Cmp(whole(y)) != 0 {
				t.Fatalf("Shift(%d, %d): %d, not %d", x, n, y, want)
			}
		}
	}
}

func TestP12ScaleAndQuantOfExamples(t *testing.T) {
	for _, c := range []struct {
		x, by int32
		n     int
		scale int32
		quant int8
	}{
		{1000, 3, 4, 188, 127},
		{-1000, 3, 4, -188, -128},
		{-40, 3, 4, -8, -8},
		{40, 3, 4, 8, 8},
		{8, 3, 4, 2, 2},
		{24, 3, 4, 4, 4},
		{127, 1, 0, 127, 127},
		{128, 1, 0, 128, 127},
		{-128, 1, -5, -128, -128},
		{-129, 1, 0, -129, -128},
		{0, math.MinInt32, 7, 0, 0},
		{math.MinInt32, math.MinInt32, 62, 1, 1},
		{math.MinInt32, math.MinInt32, 99, 1, 1},
		{math.MinInt32, math.MinInt32, 31, math.MaxInt32, 127},
		{math.MinInt32, math.MaxInt32, 31, -math.MaxInt32, -128},
		{math.MinInt32, math.MaxInt32, 0, math.MinInt32, -128},
		{math.MinInt32, -1, 0, math.MaxInt32, 127},
		{1 << 30, 1 << 30, 30, 1 << 30, 127},
		{1 << 30, 1 << 30, 20, math.MaxInt32, 127},
	} {
		if y := Scale(c.x, c.by, c.n); y != c.scale {
			t.Errorf("Scale(%d, %d, %d): %d, not %d", c.x, c.by, c.n, y, c.scale)
		}
		if y := Quant(c.x, c.by, c.n); y != c.quant {
			t.Errorf("Quant(%d, %d, %d): %d, not %d", c.x, c.by, c.n, y, c.quant)
		}
	}
}

func TestP12ScaleAndQuantAreOfTheWholeProduct(t *testing.T) {
	for _, n := range shifts() {
		for _, by := range edges() {
			for _, x := range edges() {
				brought := shiftWhole(new(big.Int).Mul(whole(int64(x)), whole(int64(by))), n)
				if y, want := Scale(x, by, n), bringWhole(brought, -1<<31, 1<<31-1); int64(y) != want {
					t.Fatalf("Scale(%d, %d, %d): %d, not %d", x, by, n, y, want)
				}
				if y, want := Quant(x, by, n), bringWhole(brought, -128, 127); int64(y) != want {
					t.Fatalf("Quant(%d, %d, %d): %d, not %d", x, by, n, y, want)
				}
			}
		}
	}
}

func TestP12QuantsIsQuantOfEach(t *testing.T) {
	if ys := Quants(3, 4, 1000, -40, 8); !slices.Equal(ys, []int8{127, -8, 2}) {
		t.Errorf("Quants(3, 4, 1000, -40, 8): %d", ys)
	}
	for _, none := range [][]int32{nil, {}} {
		if ys := Quants(3, 4, none...); len(ys) != 0 {
			t.Errorf("Quants of none: %d", ys)
		}
	}
	xs := edges()
	for _, n := range shifts() {
		ys := Quants(-77, n, xs...)
		if len(ys) != len(xs) {
			t.Fatalf("Quants of %d: %d", len(xs), len(ys))
		}
		for i, x := range xs {
			if want := Quant(x, -77, n); ys[i] != want {
				t.Errorf("Quants of %d by -77, %d: %d, not %d", x, n, ys[i], want)
			}
		}
	}
}

func TestP13Dot(t *testing.T) {
	low := slices.Repeat([]int8{-128}, 1<<17)
	high := slices.Repeat([]int8{127}, 1<<17)
	for i, c := range []struct {
		a, b []int8
		want int32
	}{
		{nil, nil, 0},
		{[]int8{}, nil, 0},
		{nil, []int8{5}, 0},
		{[]int8{5}, []int8{}, 0},
		{[]int8{3}, []int8{-7}, -21},
		{[]int8{1, 2, 3}, []int8{-4, 5}, 6},
		{[]int8{-4, 5}, []int8{1, 2, 3}, 6},
		{[]int8{-128}, []int8{-128}, 16384},
		{[]int8{-128, 127}, []int8{127, 127}, -127},
		{low[:1<<17-1], low, 1<<31 - 1<<14},
		{low, low, math.MinInt32},
		{low, high, -127 << 24},
		{high, high, 127 * 127 << 17},
	} {
		if y := Dot(c.a, c.b); y != c.want {
			t.Errorf("%d: Dot: %d, not %d", i, y, c.want)
		}
	}
}

func TestP13DotIsTheRestOfTheWholeSum(t *testing.T) {
	next := steady(3)
	for n := range 100 {
		a, b := make([]int8, n), make([]int8, int(next()%100))
		sum := whole(0)
		for i := range b {
			b[i] = int8(next())
		}
		for i := range a {
			a[i] = int8(next())
			if i < len(b) {
				sum.Add(sum, whole(int64(a[i])*int64(b[i])))
			}
		}
		if y, want := Dot(a, b), wrapWhole(sum); y != want {
			t.Fatalf("Dot of %d and %d numbers: %d, not %d", len(a), len(b), y, want)
		}
	}
}

func TestP13Argmax(t *testing.T) {
	for _, c := range []struct {
		xs   []int32
		want int
	}{
		{nil, -1},
		{[]int32{}, -1},
		{[]int32{0}, 0},
		{[]int32{-5}, 0},
		{[]int32{math.MinInt32}, 0},
		{[]int32{math.MinInt32, math.MinInt32}, 0},
		{[]int32{math.MinInt32, math.MaxInt32, math.MaxInt32}, 1},
		{[]int32{math.MaxInt32, math.MinInt32}, 0},
		{[]int32{3, 9, 9}, 1},
		{[]int32{9, 9, 3, 9}, 0},
		{[]int32{-3, -2, -9, -2}, 1},
		{[]int32{1, 2, 3, 4}, 3},
	} {
		if y := Argmax(c.xs...); y != c.want {
			t.Errorf("Argmax(%d): %d, not %d", c.xs, y, c.want)
		}
	}
}

// groupsOf parts xs into groups, whose lengths are by next; some are empty.
func groupsOf[N any](xs []N, next func() uint64) [][]N {
	var groups [][]N
	for len(xs) > 0 {
		n := int(next() % uint64(min(len(xs), 9)+1))
		groups = append(groups, xs[:n])
		xs = xs[n:]
	}
	return groups
}

// mix turns the order of xs about, by next.
func mix[N any](xs []N, next func() uint64) {
	for i := len(xs) - 1; i > 0; i-- {
		j := int(next() % uint64(i+1))
		xs[i], xs[j] = xs[j], xs[i]
	}
}

func TestP14WrapInAnyOrderAndInAnyGroups(t *testing.T) {
	next := steady(4)
	xs := wideEdges()
	want := Wrap(xs...)
	for range 100 {
		mix(xs, next)
		if y := Wrap(xs...); y != want {
			t.Fatalf("Wrap in another order: %d, not %d", y, want)
		}
		var sums []int64
		for _, g := range groupsOf(xs, next) {
			sums = append(sums, int64(Wrap(g...)))
		}
		mix(sums, next)
		if y := Wrap(sums...); y != want {
			t.Fatalf("Wrap of groups: %d, not %d", y, want)
		}
	}
}

func TestP14SumInAnyOrderAndInAnyGroups(t *testing.T) {
	next := steady(5)
	xs := edges()
	for range 50 {
		xs = append(xs, int32(next()))
	}
	want := Sum(xs...)
	for range 100 {
		mix(xs, next)
		if y := Sum(xs...); y != want {
			t.Fatalf("Sum in another order: %d, not %d", y, want)
		}
		var sums []int32
		var wide []int64
		for _, g := range groupsOf(xs, next) {
			sums = append(sums, Sum(g...))
			wide = append(wide, int64(Sum(g...)))
		}
		if y := Sum(sums...); y != want {
			t.Fatalf("Sum of groups: %d, not %d", y, want)
		}
		if y := Wrap(wide...); y != want {
			t.Fatalf("Wrap of groups' sums: %d, not %d", y, want)
		}
	}
}

func TestP14DotInAnyOrderAndInAnyGroups(t *testing.T) {
	next := steady(6)
	pairs := make([][2]int8, 1<<18)
	for i := range pairs {
		pairs[i] = [2]int8{-128 + int8(next()%8), -128 + int8(next()%8)}
	}
	dot := func(pairs [][2]int8) int32 {
		var a, b []int8
		for _, p := range pairs {
			a, b = append(a, p[0]), append(b, p[1])
		}
		return Dot(a, b)
	}
	want := dot(pairs)
	for range 3 {
		mix(pairs, next)
		if y := dot(pairs); y != want {
			t.Fatalf("Dot in another order: %d, not %d", y, want)
		}
		var sums []int32
		for _, g := range groupsOf(pairs, next) {
			sums = append(sums, dot(g))
		}
		if y := Sum(sums...); y != want {
			t.Fatalf("Sum of the groups' Dots: %d, not %d", y, want)
		}
	}
}

// fenced is a copy of xs with spare room behind it, and the whole of it.
func fenced[N int8 | int32 | int64](xs []N) ([]N, []N) {
	all := append(slices.Clone(xs), 11, 22, 33)
	return all[:len(xs)], all
}

func TestWhatIsHandedInIsNeitherChangedNorKept(t *testing.T) {
	wide, wideAll := fenced(wideEdges())
	mid, midAll := fenced(edges())
	small, smallAll := fenced([]int8{-128, 127, 0, 5})
	wideWas, midWas, smallWas := slices.Clone(wideAll), slices.Clone(midAll), slices.Clone(smallAll)
	Wrap(wide...)
	Sum(mid...)
	Argmax(mid...)
	Dot(small, small[:2])
	first := Quants(3, 4, mid...)
	was := slices.Clone(first)
	second := Quants(3, 4, mid...)
	if !slices.Equal(wideAll, wideWas) || !slices.Equal(midAll, midWas) || !slices.Equal(smallAll, smallWas) {
		t.Error("what was handed in is another one")
	}
	for i := range second {
		second[i]++
	}
	for i := range mid {
		mid[i]++
	}
	if !slices.Equal(first, was) {
		t.Error("an answer shares memory")
	}
}
