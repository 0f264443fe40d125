package curve

import (
	"math"
	"math/big"
	"slices"
	"testing"
)

// The tests hold the package against numbers of any size, which never wrap by themselves.

// whole is a number of any size.
func whole(x int64) *big.Int { return big.NewInt(x) }

// wholeOf is the same, of one without a sign.
func wholeOf(n uint64) *big.Int { return new(big.Int).SetUint64(n) }

// times is a product.
func times(a, b *big.Int) *big.Int { return new(big.Int).Mul(a, b) }

// power is 2 to the power of n.
func power(n int) *big.Int { return new(big.Int).Lsh(whole(1), uint(n)) }

// parts are a divided by b, without its rest, and its rest, of numbers not below 0.
func parts(a, b *big.Int) (*big.Int, *big.Int) { return new(big.Int).QuoRem(a, b, new(big.Int)) }

// shiftDown is x, not below 0, divided by 2^n: the nearest one, of two the even one.
func shiftDown(x *big.Int, n int) *big.Int {
	q, rest := parts(x, power(n))
	side := rest.Lsh(rest, 1).Cmp(power(n))
	if side > 0 || side == 0 && q.Bit(0) == 1 {
		q.Add(q, whole(1))
	}
	return q
}

// steady answers numbers by a fixed rule, so that a test is the same each time.
func steady(seed uint64) func() uint64 {
	return func() uint64 {
		seed = seed*6364136223846793005 + 1442695040888963407
		return seed ^ seed>>29
	}
}

// table is the chapter's, written out once more.
func table() []int64 {
	return []int64{
		65536, 64132, 62757, 61413, 60097, 58809, 57549, 56316, 55109, 53928, 52773, 51642, 50535, 49452, 48393, 47356, 46341,
		45348, 44376, 43425, 42495, 41584, 40693, 39821, 38968, 38133, 37316, 36516, 35734, 34968, 34219, 33486, 32768,
	}
}

// expWhole is E(x), reckoned as the chapter says, in numbers of any size.
func expWhole(x int64) int64 {
	if x > 0 {
		return 65536
	}
	y := new(big.Int).Neg(whole(x))
	t, _ := parts(times(y, whole(94548)), whole(65536))
	q, f := parts(t, whole(65536))
	i, r := parts(f, whole(2048))
	if q.Cmp(whole(31)) > 0 {
		return 0
	}
	here, next := table()[i.Int64()], table()[i.Int64()+1]
	v := new(big.Int).Sub(whole(here), shiftDown(times(whole(here-next), r), 11))
	return shiftDown(v, int(q.Int64())).Int64()
}

// firstOf is the x nearest to 0 whose t is not below the given one.
func firstOf(t int64) int64 { return -((t<<16 + 94547) / 94548) }

// powersOfE are x's at and beside each of the table's places, of each q, and beside all ends.
func powersOfE() []int64 {
	xs := []int64{math.MinInt64, math.MinInt64 + 1, math.MaxInt64, math.MaxInt64 - 1, 1, 2, 45426, 65536, -45426, -65536, -131072, -1000000000}
	for n := range 63 {
		for d := int64(-1); d <= 1; d++ {
			xs = append(xs, 1<<n+d, -(1<<n)+d)
		}
	}
	for place := range int64(34 * 32) {
		x := firstOf(place * 2048)
		for d := int64(-3); d <= 3; d++ {
			xs = append(xs, x+d)
		}
	}
	return xs
}

func TestP21TheTableHasTheNearestNumbers(t *testing.T) {
	one := new(big.Int).Exp(power(17), whole(32), nil)
	for i, p := range powers {
		if p != table()[i] {
			t.Errorf("the table's place %d: %d, not %d", i, p, table()[i])
		}
		// Twice the number, one less and one more, to the power of 32: between them lies 2^(17*32-i).
		low := new(big.Int).Exp(whole(2*p-1), whole(32), nil)
		high := new(big.Int).Exp(whole(2*p+1), whole(32), nil)
		if low.Lsh(low, uint(i)).Cmp(one) >= 0 || high.Lsh(high, uint(i)).Cmp(one) <= 0 {
			t.Errorf("the table's place %d: %d isn't the nearest one", i, p)
		}
	}
}

func TestP21ExpOfExamples(t *testing.T) {
	for _, c := range []struct {
		x    int64
		want int32
	}{
		{0, 65536}, {-65536, 24110}, {-45426, 32768}, {-1000000000, 0},
		{1, 65536}, {2, 65536}, {math.MaxInt64, 65536}, {math.MaxInt64 - 1, 65536},
		{-1, 65535}, {-2, 65535}, {-3, 65533}, {-131072, 8870},
		{math.MinInt64, 0}, {math.MinInt64 + 1, 0}, {-1 << 32, 0}, {-1 << 47, 0}, {-1 << 48, 0}, {-1 << 62, 0},
	} {
		if y := Exp(c.x); y != c.want {
			t.Errorf("Exp(%d): %d, not %d", c.x, y, c.want)
		}
	}
}

func TestP21ExpAtEachPlaceOfTheTable(t *testing.T) {
	for i, want := range table()[:32] {
		x := firstOf(int64(i) * 2048)
		rest := -x*94548>>16 - int64(i)*2048
		if rest > 1 {
			t.Fatalf("%d isn't at the table's place %d", x, i)
		}
		// A step of t beyond the place goes down by less than one, which may be nearer to none.
		if y := int64(Exp(x)); y > want || y < want-rest {
			t.Errorf("Exp(%d), at the table's place %d: %d, not %d", x, i, y, want)
		}
	}
}

func TestP21ExpIsReckonedAsTheChapterSays(t *testing.T) {
	for _, x := range powersOfE() {
		if y, want := Exp(x), expWhole(x); int64(y) != want {
			t.Fatalf("Exp(%d): %d, not %d", x, y, want)
		}
	}
	for x := int64(-1500000); x <= 10; x += 7 {
		if y, want := Exp(x), expWhole(x); int64(y) != want {
			t.Fatalf("Exp(%d): %d, not %d", x, y, want)
		}
	}
	next := steady(1)
	for range 20000 {
		x := int64(next()) >> (next() % 64)
		if y, want := Exp(x), expWhole(x); int64(y) != want {
			t.Fatalf("Exp(%d): %d, not %d", x, y, want)
		}
	}
}

func TestP21ExpAtAndAboveThirtyOneHalves(t *testing.T) {
	for q := int64(16); q < 40; q++ {
		x := firstOf(q << 16)
		for d := int64(-2); d <= 2; d++ {
			if y, want := Exp(x+d), expWhole(x+d); int64(y) != want {
				t.Errorf("Exp(%d): %d, not %d", x+d, y, want)
			}
		}
		if y := Exp(x); q > 16 && y != 0 {
			t.Errorf("Exp(%d), of a q of %d: %d", x, q, y)
		}
	}
	// Of a q of 16, 32769 is the least that is nearer to 1 than to 0.
	if y := Exp(firstOf(16 << 16)); y != 1 {
		t.Errorf("Exp of a q of 16: %d", y)
	}
}

func TestP21ExpIsNearEToThePower(t *testing.T) {
	for x := int64(-1000000); x <= 0; x += 11 {
		if y, want := float64(Exp(x)), 65536*math.Exp(float64(x)/65536); math.Abs(y-want) > 10 {
			t.Fatalf("Exp(%d): %v, far from %v", x, y, want)
		}
	}
}

func TestP21ExpsIsExpOfEach(t *testing.T) {
	if ys := Exps(0, -65536, 9, -45426, -1000000000); !slices.Equal(ys, []int32{65536, 24110, 65536, 32768, 0}) {
		t.Errorf("Exps: %d", ys)
	}
	for _, none := range [][]int64{nil, {}} {
		if ys := Exps(none...); len(ys) != 0 {
			t.Errorf("Exps of none: %d", ys)
		}
	}
	xs := powersOfE()
	ys := Exps(xs...)
	if len(ys) != len(xs) {
		t.Fatalf("Exps of %d: %d", len(xs), len(ys))
	}
	for i, x := range xs {
		if want := Exp(x); ys[i] != want {
			t.Errorf("Exps of %d: %d, not %d", x, ys[i], want)
		}
	}
}

// squares are numbers without a sign next to squares, powers of 2 and both ends.
func squares() []uint64 {
	ns := []uint64{0, 1, 2, 3, 99, math.MaxUint64, math.MaxUint64 - 1, math.MaxInt64, 1 << 63, 1<<63 + 1}
	next := steady(2)
	for n := range 64 {
		ns = append(ns, 1<<n-1, 1<<n, 1<<n+1, next()>>n)
	}
	roots := []uint64{1<<32 - 1, 1<<32 - 2, 3037000499, 3037000500, 1<<31 - 1, 1 << 31, 1<<31 + 1, 1 << 24, 1<<24 + 1, 1<<24 - 1}
	for r := range uint64(1000) {
		roots = append(roots, r, next()>>32, next()>>48)
	}
	for _, r := range roots {
		ns = append(ns, r*r, r*r+1, r*r-1, r*r+2*r)
	}
	return ns
}

func TestP22RootOfExamples(t *testing.T) {
	for _, c := range []struct{ n, want uint64 }{
		{0, 0}, {1, 1}, {2, 1}, {3, 1}, {4, 2}, {8, 2}, {9, 3}, {15, 3}, {16, 4}, {99, 9}, {100, 10}, {101, 10},
		{1 << 48, 1 << 24}, {1<<48 - 1, 1<<24 - 1}, {1<<48 + 1, 1 << 24},
		{1 << 62, 1 << 31}, {1<<62 - 1, 1<<31 - 1}, {1<<62 + 1, 1 << 31},
		{math.MaxUint64, 1<<32 - 1}, {(1<<32 - 1) * (1<<32 - 1), 1<<32 - 1}, {(1<<32-1)*(1<<32-1) - 1, 1<<32 - 2},
	} {
		if r := Root(c.n); r != c.want {
			t.Errorf("Root(%d): %d, not %d", c.n, r, c.want)
		}
	}
}

func TestP22RootIsTheGreatestOne(t *testing.T) {
	for _, n := range squares() {
		r := wholeOf(Root(n))
		more := new(big.Int).Add(r, whole(1))
		if times(r, r).Cmp(wholeOf(n)) > 0 || times(more, more).Cmp(wholeOf(n)) <= 0 {
			t.Errorf("Root(%d): %d", n, r)
		}
	}
}

func TestP22InverseOfExamples(t *testing.T) {
	for _, c := range []struct{ n, want uint64 }{
		{0, 1 << 24}, {1, 1 << 24}, {2, 11863283}, {3, 9686330}, {4, 1 << 23}, {5, 7502999}, {16, 1 << 22},
		{1 << 46, 2}, {1<<46 - 1, 2}, {1<<46 + 1, 1}, {1<<48 - 1, 1}, {1 << 48, 1}, {1<<48 + 1, 0}, {1 << 49, 0}, {1 << 63, 0}, {math.MaxUint64, 0},
	} {
		if r := Inverse(c.n); r != c.want {
			t.Errorf("Inverse(%d): %d, not %d", c.n, r, c.want)
		}
	}
}

func TestP22InverseIsTheGreatestOne(t *testing.T) {
	ns := squares()
	// Next to what a root times a root times a number just reaches, too.
	for r := range uint64(300) {
		n := 1 << 48 / ((r + 1) * (r + 1))
		ns = append(ns, n, n+1, n-1)
	}
	for _, n := range ns {
		if n == 0 {
			continue
		}
		r := wholeOf(Inverse(n))
		more := new(big.Int).Add(r, whole(1))
		if times(times(r, r), wholeOf(n)).Cmp(power(48)) > 0 || times(times(more, more), wholeOf(n)).Cmp(power(48)) <= 0 {
			t.Errorf("Inverse(%d): %d", n, r)
		}
	}
}

// sharesWhole are the shares, reckoned in numbers of any size.
func sharesWhole(total int32, xs []int32) []int32 {
	sum := whole(0)
	for _, x := range xs {
		if x > 0 {
			sum.Add(sum, whole(int64(x)))
		}
	}
	shares := make([]int32, len(xs))
	for i, x := range xs {
		if x > 0 && total >= 0 {
			share, _ := parts(times(whole(int64(x)), whole(int64(total))), sum)
			shares[i] = int32(share.Int64())
		}
	}
	return shares
}

// weights are lists for shares: of none, of one, of many great ones, of some not above 0, of those alone.
func weights() [][]int32 {
	lists := [][]int32{
		nil, {}, {0}, {-1}, {1}, {math.MaxInt32}, {math.MinInt32}, {0, -1, math.MinInt32},
		{1, -5, 2}, {1, 1, 1}, {math.MaxInt32, 1}, {1, math.MaxInt32}, {math.MaxInt32, math.MaxInt32}, {math.MaxInt32, math.MaxInt32, math.MaxInt32},
		{math.MinInt32, 1, math.MinInt32}, {math.MinInt32, math.MaxInt32}, {5, 0, 5}, {1, 2, 4, 8, 16},
		slices.Repeat([]int32{math.MaxInt32}, 70000), slices.Repeat([]int32{math.MaxInt32, math.MinInt32, 1}, 1000),
	}
	next := steady(3)
	for n := range 60 {
		xs := make([]int32, n)
		for i := range xs {
			xs[i] = int32(next()) >> (next() % 32)
		}
		lists = append(lists, xs)
	}
	return lists
}

// totals are at and beside the ends, and some between.
func totals() []int32 {
	return []int32{0, 1, 2, 3, 7, 100, 65536, 1<<30 + 1, math.MaxInt32 - 1, math.MaxInt32, -1, -2, -100, math.MinInt32, math.MinInt32 + 1}
}

func TestP23SharesOfExamples(t *testing.T) {
	for _, c := range []struct {
		total    int32
		xs, want []int32
	}{
		{100, []int32{1, -5, 2}, []int32{33, 0, 66}},
		{100, nil, nil},
		{100, []int32{}, nil},
		{9, []int32{0, -1}, []int32{0, 0}},
		{9, []int32{math.MinInt32, 0, -7}, []int32{0, 0, 0}},
		{9, []int32{math.MinInt32, 4}, []int32{0, 9}},
		{0, []int32{5, 6}, []int32{0, 0}},
		{-1, []int32{1}, []int32{0}},
		{math.MinInt32, []int32{1, math.MaxInt32, -1}, []int32{0, 0, 0}},
		{1, []int32{1, 1}, []int32{0, 0}},
		{1, []int32{1, 0}, []int32{1, 0}},
		{math.MaxInt32, []int32{math.MaxInt32}, []int32{math.MaxInt32}},
		{math.MaxInt32, []int32{1}, []int32{math.MaxInt32}},
		{math.MaxInt32, []int32{math.MaxInt32, math.MaxInt32}, []int32{1<<30 - 1, 1<<30 - 1}},
		{math.MaxInt32, []int32{1, 1, math.MaxInt32 - 1}, []int32{0, 0, math.MaxInt32 - 2}},
	} {
		if ys := Shares(c.total, c.xs...); !slices.Equal(ys, c.want) {
			t.Errorf("Shares(%d, %d): %d, not %d", c.total, c.xs, ys, c.want)
		}
	}
}

func TestP23SharesAreReckonedAsTheChapterSays(t *testing.T) {
	for i, xs := range weights() {
		for _, total := range totals() {
			if ys := Shares(total, xs...); !slices.Equal(ys, sharesWhole(total, xs)) {
				t.Errorf("Shares of %d by list %d aren't what the chapter says", total, i)
			}
		}
	}
}

func TestP24ExpNeverFallsAsXRises(t *testing.T) {
	last := Exp(math.MinInt64)
	for x := int64(-1500000); x <= 1000; x++ {
		y := Exp(x)
		if y < last {
			t.Fatalf("Exp(%d): %d, and one ahead of it %d", x, y, last)
		}
		last = y
	}
	xs := powersOfE()
	slices.Sort(xs)
	for i, y := range Exps(xs...) {
		if i > 0 && y < Exp(xs[i-1]) {
			t.Errorf("Exp falls from %d to %d", xs[i-1], xs[i])
		}
	}
}

func TestP24SharesAreTheTotalButForLessThanOneEach(t *testing.T) {
	for i, xs := range weights() {
		some := slices.ContainsFunc(xs, func(x int32) bool { return x > 0 })
		for _, total := range totals() {
			// Of a total below 0 the promise of the shares themselves says that all are 0.
			if total < 0 {
				continue
			}
			sum := int64(0)
			for _, share := range Shares(total, xs...) {
				sum += int64(share)
			}
			if sum > int64(total) {
				t.Errorf("shares of %d by list %d: %d together", total, i, sum)
			}
			if some && int64(total)-sum >= int64(len(xs)) {
				t.Errorf("shares of %d by list %d of %d: only %d together", total, i, len(xs), sum)
			}
		}
	}
}

// fenced is a copy of xs with spare room behind it, and the whole of it.
func fenced[N int32 | int64](xs []N) ([]N, []N) {
	all := append(slices.Clone(xs), 11, 22, 33)
	return all[:len(xs)], all
}

func TestWhatIsHandedInIsNeitherChangedNorKept(t *testing.T) {
	wide, wideAll := fenced([]int64{0, -65536, 5, math.MinInt64})
	mid, midAll := fenced([]int32{1, -5, 2, math.MaxInt32})
	wideWas, midWas := slices.Clone(wideAll), slices.Clone(midAll)
	exps, shares := Exps(wide...), Shares(100, mid...)
	expsWere, sharesWere := slices.Clone(exps), slices.Clone(shares)
	if !slices.Equal(wideAll, wideWas) || !slices.Equal(midAll, midWas) {
		t.Error("what was handed in is another one")
	}
	moreExps, moreShares := Exps(wide...), Shares(100, mid...)
	for i := range wide {
		wide[i]--
		moreExps[i]++
	}
	for i := range mid {
		mid[i]--
		moreShares[i]++
	}
	if !slices.Equal(exps, expsWere) || !slices.Equal(shares, sharesWere) {
		t.Error("an answer shares memory")
	}
}
