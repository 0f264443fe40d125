package rope

import (
	"maps"
	"math"
	"math/big"
	"slices"
	"testing"

	"peloton/api"
)

// The tests hold the package against numbers of any size, which never wrap by themselves.

// whole is a number of any size.
func whole[N int | int8 | int32 | int64](x N) *big.Int { return big.NewInt(int64(x)) }

// plus, less and times are a sum, a difference and a product.
func plus(a, b *big.Int) *big.Int  { return new(big.Int).Add(a, b) }
func less(a, b *big.Int) *big.Int  { return new(big.Int).Sub(a, b) }
func times(a, b *big.Int) *big.Int { return new(big.Int).Mul(a, b) }

// rest is x's rest by a whole number, from 0 on.
func rest(x *big.Int, by int64) int64 { return new(big.Int).Mod(x, whole(by)).Int64() }

// shiftDown is x divided by 2^n: the nearest whole number, of two the even one.
func shiftDown(x *big.Int, n uint) *big.Int {
	unit := new(big.Int).Lsh(whole(1), n)
	q, rest := new(big.Int).DivMod(x, unit, new(big.Int))
	side := rest.Lsh(rest, 1).Cmp(unit)
	if side > 0 || side == 0 && q.Bit(0) == 1 {
		q.Add(q, whole(1))
	}
	return q
}

// small is x, brought to the range of 8 bits.
func small(x *big.Int) int8 {
	if x.Cmp(whole(-128)) < 0 {
		return -128
	}
	if x.Cmp(whole(127)) > 0 {
		return 127
	}
	return int8(x.Int64())
}

// chapterSines are S(0) to S(32), as they stand in the chapter.
func chapterSines() []int32 {
	return []int32{0, 804, 1606, 2404, 3196, 3981, 4756, 5520, 6270, 7005, 7723, 8423, 9102, 9760, 10394, 11003, 11585, 12140, 12665, 13160, 13623, 14053, 14449, 14811, 15137, 15426, 15679, 15893, 16069, 16207, 16305, 16364, 16384}
}

// sineWhole is the sine of a step, reckoned as the chapter says.
func sineWhole(a *big.Int) int32 {
	step := rest(a, 65536)
	q, f := step/16384, step%16384
	if q%2 == 1 {
		f = 16384 - f
	}
	s, i, r := chapterSines(), f/512, f%512
	v := s[i]
	if i != 32 {
		v += int32(shiftDown(times(whole(s[i+1]-s[i]), whole(r)), 9).Int64())
	}
	if q == 2 || q == 3 {
		return -v
	}
	return v
}

// cosineWhole is the cosine of a step, reckoned as the chapter says.
func cosineWhole(a *big.Int) int32 { return sineWhole(plus(a, whole(16384))) }

// angleWhole is the angle of a pair at a place, reckoned as the chapter says.
func angleWhole(place, pair int) int64 {
	if place < 0 || place > 1<<20 || pair < 0 || pair > 13 {
		return 0
	}
	halved := whole(8192)
	for range pair {
		halved.Quo(halved, whole(2))
	}
	return rest(times(whole(place), halved), 65536)
}

// turnedBy is a pair, turned by a cosine and a sine, reckoned as the chapter says.
func turnedBy(c, s int32, x, y int8) (int8, int8) {
	first := less(times(whole(x), whole(c)), times(whole(y), whole(s)))
	second := plus(times(whole(x), whole(s)), times(whole(y), whole(c)))
	return small(shiftDown(first, 14)), small(shiftDown(second, 14))
}

// turnWhole is Turn of an even number, at a place that isn't refused, reckoned as the chapter says.
func turnWhole(place int, xs []int8) []int8 {
	var ys []int8
	for pair := 0; 2*pair < len(xs); pair++ {
		angle := whole(angleWhole(place, pair))
		y, z := turnedBy(cosineWhole(angle), sineWhole(angle), xs[2*pair], xs[2*pair+1])
		ys = append(ys, y, z)
	}
	return ys
}

// steady answers numbers by a fixed rule, so that a test is the same each time.
func steady(seed uint64) func() uint64 {
	return func() uint64 {
		seed = seed*6364136223846793005 + 1442695040888963407
		return seed ^ seed>>29
	}
}

// any8 are numbers by next, of all 8 bits, some of them its ends.
func any8(next func() uint64, n int) []int8 {
	xs := make([]int8, n)
	for i := range xs {
		xs[i] = int8(next() >> 16)
		if next()%4 == 0 {
			xs[i] = []int8{-128, 127, -127, 126, -1, 0, 1}[next()%7]
		}
	}
	return xs
}

// holdTrig holds the sine and the cosine of a step against the chapter's.
func holdTrig(t *testing.T, a int64) {
	t.Helper()
	if got, wanted := Sin(a), sineWhole(whole(a)); got != wanted {
		t.Errorf("Sin(%d): %d, not %d", a, got, wanted)
	}
	if got, wanted := Cos(a), cosineWhole(whole(a)); got != wanted {
		t.Errorf("Cos(%d): %d, not %d", a, got, wanted)
	}
}

// holdTurn holds a turned row against what is wanted.
func holdTurn(t *testing.T, place int, xs, wanted []int8) {
	t.Helper()
	got, e := Turn(place, xs...)
	if e != api.OK || !slices.Equal(got, wanted) {
		t.Errorf("Turn(%d, %d): %d and %d, not %d", place, xs, got, e, wanted)
	}
}

// refuseTurn holds a row that isn't turned against its error; it is none.
func refuseTurn(t *testing.T, place int, xs []int8, wanted api.Errno) {
	t.Helper()
	if got, e := Turn(place, xs...); e != wanted || len(got) != 0 {
		t.Errorf("Turn(%d, %d numbers): %d and %d, not error %d", place, len(xs), got, e, wanted)
	}
}

// tableOf answers a table that has no error.
func tableOf(t *testing.T, places, pairs int) map[[2]int][2]int32 {
	t.Helper()
	table, e := Table(places, pairs)
	if e != api.OK {
		t.Fatalf("Table(%d, %d): error %d", places, pairs, e)
	}
	return table
}

func TestP61SinesOfExamples(t *testing.T) {
	for _, c := range []struct {
		a    int64
		want int32
	}{
		{8192, 11585}, {16384, 16384}, {-16384, -16384},
		{0, 0}, {65536, 0}, {-65536, 0}, {32768, 0}, {-32768, 0}, {49152, -16384}, {-49152, 16384},
		{512, 804}, {-512, -804}, {1024, 1606}, {32768 - 512, 804}, {32768 + 512, -804}, {65536 - 512, -804},
		// One step to either side of each quarter: 804 and 20 of 512 parts, a step of them.
		{1, 2}, {-1, -2}, {16383, 16384}, {16385, 16384}, {32767, 2}, {32769, -2}, {49151, -16384}, {49153, -16384}, {65535, -2}, {65537, 2},
		// Halves go to the even one, of what is added, not of the sum: 387.5 and 3981, 764.5 less 0.5.
		{5*512 + 256, 3981 + 388}, {-5*512 - 256, -3981 - 388}, {31*512 + 256, 16374},
		{12*512 + 256, 9431}, {14*512 + 256, 10394 + 304}, {10*512 + 256, 7723 + 350}, {16*512 + 256, 11585 + 278},
		{30*512 + 256, 16305 + 30}, {29*512 + 384, 16207 + 74}, {29*512 + 1, 16207},
		// The ends of 64 bits: the greatest is one step below a whole turn, the least none.
		{math.MaxInt64, -2}, {math.MinInt64, 0}, {math.MinInt64 + 1, 2}, {math.MaxInt64 - 511, -804}, {math.MinInt64 + 512, 804},
	} {
		if got := Sin(c.a); got != c.want {
			t.Errorf("Sin(%d): %d, not %d", c.a, got, c.want)
		}
	}
}

func TestP61CosinesOfExamples(t *testing.T) {
	for _, c := range []struct {
		a    int64
		want int32
	}{
		{0, 16384}, {16384, 0}, {-16384, 0}, {32768, -16384}, {-32768, -16384}, {49152, 0}, {65536, 16384},
		{8192, 11585}, {-8192, 11585}, {24576, -11585}, {40960, -11585},
		{1, 16384}, {-1, 16384}, {16383, 2}, {16385, -2}, {32767, -16384}, {32769, -16384}, {49151, -2}, {49153, 2},
		{512, 16364}, {-512, 16364}, {16384 - 512, 804}, {16384 + 512, -804},
		// A quarter more than the greatest number wraps.
		{math.MaxInt64, 16384}, {math.MinInt64, 16384}, {math.MaxInt64 - 16383, 0}, {math.MaxInt64 - 16382, 2}, {math.MaxInt64 - 16384, -2},
	} {
		if got := Cos(c.a); got != c.want {
			t.Errorf("Cos(%d): %d, not %d", c.a, got, c.want)
		}
	}
}

func TestP61TheTableIsTheChapters(t *testing.T) {
	for i, s := range chapterSines() {
		if got := Sin(int64(512 * i)); got != s {
			t.Errorf("Sin(%d): %d, not %d", 512*i, got, s)
		}
		if near := math.Round(16384 * math.Sin(2*math.Pi*float64(i)/128)); near != float64(s) {
			t.Errorf("S(%d): %d, but %.0f is nearest", i, s, near)
		}
	}
}

func TestP61EveryStepOfATurn(t *testing.T) {
	for a := int64(-65536); a <= 2*65536; a++ {
		holdTrig(t, a)
	}
}

func TestP61TurnsFurtherOnIsTheSame(t *testing.T) {
	next := steady(1)
	for _, a := range []int64{math.MinInt64, math.MaxInt64 - 3*65536, -1 << 40, 1 << 40, -1 << 32, 1 << 32, 1 << 31, math.MaxInt32, math.MinInt32, math.MinInt32 - 1} {
		for step := range int64(2 * 65536) {
			if step%64 < 3 || step%64 > 61 {
				holdTrig(t, a+step)
			}
		}
	}
	for back := range int64(66000) {
		holdTrig(t, math.MaxInt64-back)
	}
	for range 50000 {
		a := int64(next()) >> (next() % 64)
		holdTrig(t, a)
		if b := a/2 + 65536; Sin(b) != Sin(a/2) || Cos(b) != Cos(a/2) || Sin(b-2*65536) != Sin(b) || Cos(b-2*65536) != Cos(b) {
			t.Errorf("a turn on from %d: %d and %d, not %d and %d", a/2, Sin(b), Cos(b), Sin(a/2), Cos(a/2))
		}
	}
}

func TestP61AnglesOfExamples(t *testing.T) {
	for _, c := range []struct {
		place, pair int
		want        int64
	}{
		{3, 1, 12288}, {9, 0, 8192}, {5, 13, 5}, {5, 14, 0},
		{0, 0, 0}, {0, 13, 0}, {0, 99, 0},
		{1, 0, 8192}, {7, 0, 57344}, {8, 0, 0}, {1, 12, 2}, {1, 13, 1}, {1, 14, 0}, {1, 15, 0},
		{65535, 13, 65535}, {65536, 13, 0}, {65537, 13, 1}, {65536, 0, 0},
		// The last place and the one behind it.
		{1 << 20, 0, 0}, {1 << 20, 13, 0}, {1<<20 - 1, 0, 57344}, {1<<20 - 1, 1, 61440}, {1<<20 - 1, 12, 65534}, {1<<20 - 1, 13, 65535}, {1<<20 - 1, 14, 0},
		{1<<20 + 1, 0, 0}, {1<<20 + 1, 13, 0}, {1<<20 + 3, 1, 0}, {math.MaxInt, 0, 0}, {math.MaxInt, 13, 0},
		// Below 0, and beyond the pairs.
		{-1, 0, 0}, {-1, 13, 0}, {-3, 1, 0}, {math.MinInt, 0, 0}, {math.MinInt + 1, 13, 0},
		{1, -1, 0}, {3, -2, 0}, {3, math.MinInt, 0}, {3, -64, 0}, {-1, -1, 0}, {0, -1, 0}, {1<<20 + 1, -1, 0},
		{3, 63, 0}, {3, 64, 0}, {3, 65, 0}, {3, 128, 0}, {3, 1 << 32, 0}, {3, 1<<32 + 1, 0}, {3, math.MaxInt, 0},
	} {
		if got := Angle(c.place, c.pair); got != c.want {
			t.Errorf("Angle(%d, %d): %d, not %d", c.place, c.pair, got, c.want)
		}
	}
}

func TestP61AnglesAreReckonedAsTheChapterSays(t *testing.T) {
	next := steady(2)
	places := []int{-1 << 40, -5, -2, -1, 1<<20 - 2, 1<<20 - 1, 1 << 20, 1<<20 + 1, 1<<20 + 2, 1 << 40}
	for place := range 2000 {
		places = append(places, place)
	}
	for range 2000 {
		places = append(places, int(next()%(1<<20+1)))
	}
	for _, place := range places {
		for pair := -3; pair < 70; pair++ {
			if got, wanted := Angle(place, pair), angleWhole(place, pair); got != wanted {
				t.Errorf("Angle(%d, %d): %d, not %d", place, pair, got, wanted)
			}
		}
	}
}

func TestP62TurnOfExamples(t *testing.T) {
	for _, c := range []struct {
		place int
		xs    []int8
		want  []int8
	}{
		{2, []int8{100, 0}, []int8{0, 100}},
		{0, nil, nil}, {0, []int8{}, nil}, {1 << 20, nil, nil}, {7, nil, nil},
		// By eighths of a turn: around, and home again.
		{1, []int8{100, 0}, []int8{71, 71}}, {3, []int8{100, 0}, []int8{-71, 71}}, {4, []int8{100, 0}, []int8{-100, 0}},
		{5, []int8{100, 0}, []int8{-71, -71}}, {6, []int8{100, 0}, []int8{0, -100}}, {7, []int8{100, 0}, []int8{71, -71}}, {8, []int8{100, 0}, []int8{100, 0}},
		{2, []int8{0, 100}, []int8{-100, 0}}, {2, []int8{3, -7}, []int8{7, 3}}, {4, []int8{3, -7}, []int8{-3, 7}}, {6, []int8{3, -7}, []int8{-7, -3}},
		// The second pair has half of the steps, the third a quarter.
		{2, []int8{100, 0, 100, 0, 0, 0}, []int8{0, 100, 71, 71, 0, 0}}, {4, []int8{100, 0, 100, 0, 100, 0}, []int8{-100, 0, 0, 100, 71, 71}},
		// Both ends of 8 bits.
		{1, []int8{127, 127}, []int8{0, 127}}, {1, []int8{-128, -128}, []int8{0, -128}}, {1, []int8{127, -128}, []int8{127, -1}}, {1, []int8{-128, 127}, []int8{-128, -1}},
		{2, []int8{-128, -128}, []int8{127, -128}}, {2, []int8{127, -128}, []int8{127, 127}}, {4, []int8{-128, 127}, []int8{127, -127}}, {6, []int8{-128, 127}, []int8{127, 127}},
		{3, []int8{127, 127}, []int8{-128, 0}}, {7, []int8{127, 127}, []int8{127, 0}}, {5, []int8{-128, -128}, []int8{0, 127}},
		{1 << 20, []int8{5, -6, 127, -128}, []int8{5, -6, 127, -128}},
	} {
		holdTurn(t, c.place, c.xs, c.want)
	}
}

// places are ones to turn at: the first ones, the last one, and between.
func places() []int {
	all := []int{1<<20 - 1, 1 << 20, 1<<20 - 3, 65535, 65536, 65537, 32768, 16384, 12345}
	for place := range 40 {
		all = append(all, place)
	}
	return all
}

func TestP62TurnIsReckonedAsTheChapterSays(t *testing.T) {
	next := steady(3)
	for _, place := range places() {
		for pairs := range 34 {
			xs := any8(next, 2*pairs)
			holdTurn(t, place, xs, turnWhole(place, xs))
		}
	}
	for range 5000 {
		xs, place := any8(next, 2*int(next()%17)), int(next()%(1<<20+1))
		holdTurn(t, place, xs, turnWhole(place, xs))
	}
	xs := any8(next, 10000)
	holdTurn(t, 12345, xs, turnWhole(12345, xs))
}

// The pair is the second, so that its angle at a place is an odd number of eighths, too.
func TestP62TurnOfAllPairsOfNumbers(t *testing.T) {
	for _, place := range []int{1, 2, 5, 777} {
		var xs []int8
		for x := -128; x < 128; x++ {
			for y := -128; y < 128; y++ {
				xs = append(xs[:0], 0, 0, int8(x), int8(y))
				holdTurn(t, place, xs, turnWhole(place, xs))
			}
		}
	}
}

func TestP62PairsBeyondTheFourteenthAreNotTurned(t *testing.T) {
	next := steady(4)
	for _, place := range places() {
		xs := any8(next, 200)
		got, e := Turn(place, xs...)
		if e != api.OK || len(got) != 200 || !slices.Equal(got[28:], xs[28:]) {
			t.Errorf("Turn(%d) of 100 pairs: %d and %d, of %d", place, got, e, xs)
		}
	}
	// The fourteenth is turned: by a quarter at place 16384, where the thirteenth is turned by a half.
	xs := make([]int8, 30)
	xs[24], xs[26], xs[28] = 5, 6, 7
	wanted := make([]int8, 30)
	wanted[24], wanted[27], wanted[28] = -5, 6, 7
	holdTurn(t, 16384, xs, wanted)
}

func TestP62TurnOfWhatHasNoShape(t *testing.T) {
	for _, n := range []int{1, 3, 5, 7, 27, 29, 31, 4097, 10001} {
		for _, place := range []int{0, 1, 2, 1 << 20, 1<<20 + 1, -1, math.MinInt, math.MaxInt} {
			refuseTurn(t, place, slices.Repeat([]int8{5}, n), api.ErrShape)
		}
	}
}

func TestP62TurnAtNoPlace(t *testing.T) {
	for _, n := range []int{0, 2, 4, 26, 28, 30, 4096, 10000} {
		for _, place := range []int{-1, -2, -1 << 20, math.MinInt, 1<<20 + 1, 1<<20 + 2, 1 << 21, 1 << 32, math.MaxInt} {
			refuseTurn(t, place, slices.Repeat([]int8{5}, n), api.ErrArg)
		}
	}
}

func TestP63TableOfExamples(t *testing.T) {
	wanted := map[[2]int][2]int32{
		{0, 0}: {16384, 0}, {0, 1}: {16384, 0},
		{1, 0}: {11585, 11585}, {1, 1}: {15137, 6270},
		{2, 0}: {0, 16384}, {2, 1}: {11585, 11585},
		{3, 0}: {-11585, 11585}, {3, 1}: {6270, 15137},
	}
	if got := tableOf(t, 4, 2); !maps.Equal(got, wanted) {
		t.Errorf("Table(4, 2): %v, not %v", got, wanted)
	}
	if got := tableOf(t, 1, 1); !maps.Equal(got, map[[2]int][2]int32{{0, 0}: {16384, 0}}) {
		t.Errorf("Table(1, 1): %v", got)
	}
}

func TestP63TableIsReckonedAsTheChapterSays(t *testing.T) {
	for _, side := range [][2]int{{1, 256}, {256, 1}, {2, 3}, {3, 2}, {14, 15}, {255, 255}, {255, 256}, {256, 255}, {256, 256}} {
		table := tableOf(t, side[0], side[1])
		if len(table) != side[0]*side[1] {
			t.Errorf("Table(%d, %d) has %d", side[0], side[1], len(table))
		}
		for place := range side[0] {
			for pair := range side[1] {
				angle := whole(angleWhole(place, pair))
				wanted := [2]int32{cosineWhole(angle), sineWhole(angle)}
				if got, ok := table[[2]int{place, pair}]; !ok || got != wanted {
					t.Errorf("Table(%d, %d) of %d, %d: %d, not %d", side[0], side[1], place, pair, got, wanted)
				}
			}
		}
	}
}

func TestP63TableOfNothing(t *testing.T) {
	for _, side := range [][2]int{{0, 0}, {0, 1}, {1, 0}, {0, 256}, {256, 0}, {7, 0}, {0, 14}} {
		if table := tableOf(t, side[0], side[1]); len(table) != 0 {
			t.Errorf("Table(%d, %d): %v", side[0], side[1], table)
		}
	}
}

func TestP63TableOfWrongSides(t *testing.T) {
	wrong := []int{math.MinInt, -256, -2, -1, 257, 258, 1 << 16, 1 << 32, math.MaxInt}
	refuse := func(places, pairs int) {
		if table, e := Table(places, pairs); e != api.ErrArg || len(table) != 0 {
			t.Errorf("Table(%d, %d): %d rows and %d, not ErrArg", places, pairs, len(table), e)
		}
	}
	for _, side := range wrong {
		for _, right := range []int{0, 1, 14, 255, 256} {
			refuse(side, right)
			refuse(right, side)
		}
		for _, other := range wrong {
			refuse(side, other)
		}
	}
}

func TestP63TurnedByATablesRowItIsTurn(t *testing.T) {
	table := tableOf(t, 256, 20)
	next := steady(5)
	for place := range 256 {
		for range 20 {
			xs := any8(next, 40)
			var wanted []int8
			for pair := range 20 {
				by := table[[2]int{place, pair}]
				x, y := turnedBy(by[0], by[1], xs[2*pair], xs[2*pair+1])
				wanted = append(wanted, x, y)
			}
			holdTurn(t, place, xs, wanted)
		}
	}
}

func TestP64AtPlaceNoughtNothingIsTurned(t *testing.T) {
	next := steady(6)
	for n := range 60 {
		xs := any8(next, 2*n)
		holdTurn(t, 0, xs, xs)
	}
	var xs []int8
	for x := -128; x < 128; x++ {
		xs = append(xs, int8(x), int8(-x-1))
	}
	holdTurn(t, 0, xs, xs)
	for pair, row := range tableOf(t, 1, 256) {
		if row != [2]int32{16384, 0} {
			t.Errorf("the row of %d: %d", pair, row)
		}
	}
}

func TestP64SquaresComeToNearlyOne(t *testing.T) {
	for a := int64(-70000); a < 140000; a++ {
		s, c := int64(Sin(a)), int64(Cos(a))
		if off := s*s + c*c - 1<<28; off <= -1<<20 || off >= 1<<20 {
			t.Errorf("the squares of %d: off by %d", a, off)
		}
	}
	for at, row := range tableOf(t, 256, 256) {
		c, s := int64(row[0]), int64(row[1])
		if off := s*s + c*c - 1<<28; off <= -1<<20 || off >= 1<<20 {
			t.Errorf("the squares of the row of %d: off by %d", at, off)
		}
	}
}

func TestP64TurnedRowsAreNewMemory(t *testing.T) {
	for _, place := range []int{0, 1, 2, 8, 1 << 20} {
		room := []int8{1, -2, 127, -128, 5, 6, 7, 8}
		xs := room[:4]
		first, e := Turn(place, xs...)
		kept := slices.Clone(first)
		holdTurn(t, place, []int8{1, -2, 127, -128}, kept)
		if e != api.OK || !slices.Equal(room, []int8{1, -2, 127, -128, 5, 6, 7, 8}) {
			t.Errorf("Turn(%d): what was handed in is %d", place, room)
		}
		second, _ := Turn(place, xs...)
		spare := second[:cap(second)]
		for i := range spare {
			spare[i] += 3
		}
		if !slices.Equal(room, []int8{1, -2, 127, -128, 5, 6, 7, 8}) || !slices.Equal(first, kept) {
			t.Errorf("Turn(%d), behind a change of an answer: %d was handed in, %d was answered", place, room, first)
		}
		holdTurn(t, place, xs, kept)
		for i := range room {
			room[i] = 99
		}
		if !slices.Equal(first, kept) {
			t.Errorf("Turn(%d), behind a change of what was handed in: %d, not %d", place, first, kept)
		}
	}
}

func TestP64WhatIsRefusedIsNotChanged(t *testing.T) {
	room := []int8{1, -2, 127, -128, 5, 6, 7, 8}
	for _, place := range []int{-1, 1, 1<<20 + 1} {
		refuseTurn(t, place, room[:3], api.ErrShape)
	}
	refuseTurn(t, -1, room[:4], api.ErrArg)
	refuseTurn(t, 1<<20+1, room[:4], api.ErrArg)
	if !slices.Equal(room, []int8{1, -2, 127, -128, 5, 6, 7, 8}) {
		t.Errorf("what was handed in is %d", room)
	}
}

func TestP64TablesAreNewMemory(t *testing.T) {
	first, second := tableOf(t, 9, 9), tableOf(t, 9, 9)
	kept := maps.Clone(first)
	for at := range second {
		second[at] = [2]int32{7, 7}
	}
	second[[2]int{9, 9}] = [2]int32{}
	if !maps.Equal(first, kept) || !maps.Equal(tableOf(t, 9, 9), kept) {
		t.Error("a change of a table changed another")
	}
	clear(first)
	if !maps.Equal(tableOf(t, 9, 9), kept) || Sin(512) != 804 || Cos(512) != 16364 {
		t.Error("a table that was emptied changed the next answer")
	}
}
