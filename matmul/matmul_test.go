package matmul

import (
	"math"
	"math/big"
	"slices"
	"testing"

	"peloton/api"
	"peloton/round"
)

// of is a matrix of the given numbers.
func of(rows, cols int, numbers ...int8) api.Mat {
	return api.Mat{Rows: rows, Cols: cols, V: numbers}
}

// gridOf is a grid of the given cells.
func gridOf(rows, cols int, cells ...int32) api.Grid {
	return api.Grid{Rows: rows, Cols: cols, V: cells}
}

// same: have the matrices the same sides and the same numbers?
func same(a, b api.Mat) bool {
	return a.Rows == b.Rows && a.Cols == b.Cols && slices.Equal(a.V, b.V)
}

// sameGrid: have the grids the same sides and the same cells?
func sameGrid(a, b api.Grid) bool {
	return a.Rows == b.Rows && a.Cols == b.Cols && slices.Equal(a.V, b.V)
}

// steady answers numbers by a fixed rule, so that a test is the same each time.
func steady(seed uint64) func() uint64 {
	return func() uint64 {
		seed = seed*6364136223846793005 + 1442695040888963407
		return seed ^ seed>>29
	}
}

// any8 are numbers by next, of all 8 bits.
func any8(next func() uint64, n int) []int8 {
	xs := make([]int8, n)
	for i := range xs {
		xs[i] = int8(next() >> 16)
	}
	return xs
}

// anyOf is a matrix whose numbers are by next, of all 8 bits.
func anyOf(next func() uint64, rows, cols int) api.Mat {
	return of(rows, cols, any8(next, rows*cols)...)
}

// all8 are so many numbers that are all the same.
func all8(n int, x int8) []int8 { return slices.Repeat([]int8{x}, n) }

// noughts is a matrix of noughts, of any sides that have numbers.
func noughts(rows, cols int) api.Mat { return of(rows, cols, make([]int8, rows*cols)...) }

// gridOfNoughts is the same of a grid.
func gridOfNoughts(rows, cols int) api.Grid { return gridOf(rows, cols, make([]int32, rows*cols)...) }

// want holds a matrix that came without an error against what is wanted.
func want(t *testing.T, what string, wanted, got api.Mat, e api.Errno) {
	t.Helper()
	if e != api.OK || !same(got, wanted) {
		if len(got.V)+len(wanted.V) > 100 {
			got.V, wanted.V = nil, nil
		}
		t.Errorf("%s: %v and %d, not %v", what, got, e, wanted)
	}
}

// refused holds a matrix against an error; all beside it is nothing.
func refused(t *testing.T, what string, wanted api.Errno, got api.Mat, e api.Errno) {
	t.Helper()
	if e != wanted || got.Rows != 0 || got.Cols != 0 || len(got.V) != 0 {
		t.Errorf("%s: %d by %d, %d numbers, and %d, not %d", what, got.Rows, got.Cols, len(got.V), e, wanted)
	}
}

// wantList holds a list that came without an error against what is wanted.
func wantList[N int | int32](t *testing.T, what string, wanted, got []N, e api.Errno) {
	t.Helper()
	if e != api.OK || !slices.Equal(got, wanted) {
		t.Errorf("%s: %v and %d, not %v", what, got[:min(len(got), 20)], e, wanted[:min(len(wanted), 20)])
	}
}

// wantLists is the same of a list of lists.
func wantLists(t *testing.T, what string, wanted, got [][]int32, e api.Errno) {
	t.Helper()
	if e != api.OK || !slices.EqualFunc(got, wanted, slices.Equal[[]int32]) {
		t.Errorf("%s: %d lists and %d, not %d, or others", what, len(got), e, len(wanted))
	}
}

// refusedList holds a list against an error; it is none.
func refusedList[L any](t *testing.T, what string, wanted api.Errno, got []L, e api.Errno) {
	t.Helper()
	if e != wanted || len(got) != 0 {
		t.Errorf("%s: %d numbers or lists, and %d, not %d", what, len(got), e, wanted)
	}
}

// good answers what came without an error.
func good[A any](t *testing.T) func(A, api.Errno) A {
	return func(a A, e api.Errno) A {
		t.Helper()
		if e != api.OK {
			t.Fatalf("nothing: error %d", e)
		}
		return a
	}
}

// right are right matrices: of no rows, of no columns, of neither, of one number, of others.
func right() []api.Mat {
	next := steady(1)
	ms := []api.Mat{{}, of(0, 0, []int8{}...), of(0, 1), of(1, 0), of(0, 5), of(5, 0), of(0, 4096), of(4096, 0)}
	for _, c := range [][2]int{{1, 1}, {1, 2}, {2, 1}, {2, 2}, {3, 5}, {7, 4}, {1, 4096}, {4096, 1}, {4096, 3}, {3, 4096}} {
		ms = append(ms, anyOf(next, c[0], c[1]))
	}
	return ms
}

// great are right matrices of 2^20 numbers or some fewer.
func great() []api.Mat {
	next := steady(2)
	var ms []api.Mat
	for _, c := range [][2]int{{1024, 1024}, {4096, 256}, {256, 4096}, {2048, 512}, {255, 4096}, {275, 3813}, {3813, 275}} {
		ms = append(ms, anyOf(next, c[0], c[1]))
	}
	return ms
}

// wrong are matrices that aren't right, in each way.
func wrong() []api.Mat {
	ms := []api.Mat{
		of(2, 2), of(2, 2, 1, 2, 3), of(2, 2, 1, 2, 3, 4, 5), of(0, 0, 1), of(0, 5, 1), of(5, 0, 1), of(1, 1), of(1, 1, 1, 2), of(4096, 4096), of(1024, 1024),
		of(-1, -1, 1), of(-2, -3, 1, 2, 3, 4, 5, 6), of(-1, 0), of(0, -1), of(-1, 1), of(1, -1, 1), of(-4096, 0), of(0, -4096),
		of(0, 4097), of(4097, 0), of(4097, 4097), noughts(1, 4097), noughts(4097, 1), noughts(4097, 2), noughts(8192, 2),
		of(math.MaxInt, 0), of(0, math.MaxInt), of(math.MinInt, 0), of(0, math.MinInt), of(math.MaxInt, math.MaxInt, 1), of(math.MaxInt, 1, 1), of(1, math.MaxInt, 1),
		of(math.MinInt, math.MinInt), of(math.MinInt, 2), of(2, math.MinInt), of(1<<32, 1<<32), of(1<<31, -1<<33), of(math.MaxInt, 2), of(math.MinInt, 1, 1),
	}
	for _, off := range []int{-1, 1} {
		m := of(1024, 1024, make([]int8, 1<<20+off)...)
		ms = append(ms, m)
	}
	return append(ms, tooMany()...)
}

// tooMany are matrices of sides that may be and of more than 2^20 numbers: 919 by 1141 are 2^20 and 3, and no sides that may be have fewer above it.
func tooMany() []api.Mat {
	return []api.Mat{noughts(919, 1141), noughts(1141, 919), noughts(1025, 1024), noughts(1024, 1025), noughts(4096, 257), noughts(257, 4096), noughts(4096, 4096)}
}

func TestP41RightIsAskedOfEach(t *testing.T) {
	if !Right() || !Right(nil...) || !Right([]api.Mat{}...) {
		t.Error("of none, one isn't right")
	}
	ms := append(right(), great()...)
	for _, m := range ms {
		if !Right(m) {
			t.Errorf("%d by %d of %d isn't right", m.Rows, m.Cols, len(m.V))
		}
	}
	if !Right(ms...) {
		t.Error("all together aren't right")
	}
	for _, m := range wrong() {
		if Right(m) {
			t.Errorf("%d by %d of %d is right", m.Rows, m.Cols, len(m.V))
		}
		for at := range 3 {
			ms := []api.Mat{of(1, 1, 1), of(0, 3), of(2, 1, 4, 5)}
			ms[at] = m
			if Right(ms...) {
				t.Errorf("%d by %d of %d at %d is right among others", m.Rows, m.Cols, len(m.V), at)
			}
		}
	}
}

func TestP41ApplyOfExamples(t *testing.T) {
	for _, c := range []struct {
		m    api.Mat
		x    []int8
		want []int32
	}{
		{of(2, 2, 1, 2, 3, -4), []int8{5, 6}, []int32{17, -9}},
		{of(2, 3, 1, 2, 3, -4, 5, -128), []int8{1, -1, -128}, []int32{-385, 16375}},
		{of(1, 1, 7), []int8{-6}, []int32{-42}},
		{of(1, 1, -128), []int8{-128}, []int32{16384}},
		{of(1, 1, -128), []int8{127}, []int32{-16256}},
		{of(1, 1, 127), []int8{127}, []int32{16129}},
		{of(3, 1, 1, -2, 127), []int8{-128}, []int32{-128, 256, -16256}},
		{of(1, 3, 1, 10, 100), []int8{3, 2, 1}, []int32{123}},
		{api.Mat{}, nil, nil},
		{of(0, 0), []int8{}, nil},
		{of(0, 3), []int8{1, 2, 3}, nil},
		{of(3, 0), nil, []int32{0, 0, 0}},
		{of(4096, 0), []int8{}, make([]int32, 4096)},
		{of(0, 4096), all8(4096, -128), nil},
	} {
		got, e := Apply(c.m, c.x)
		wantList(t, "Apply", c.want, got, e)
	}
}

// The longest rows of the least and the greatest numbers: their sums go beyond 16 and 24 bits.
func TestP41ApplyOfTheLeastAndTheGreatest(t *testing.T) {
	for _, c := range []struct {
		a, x int8
		want int32
	}{{-128, -128, 67108864}, {-128, 127, -66584576}, {127, -128, -66584576}, {127, 127, 66064384}, {-128, 0, 0}, {-1, -128, 524288}} {
		for _, rows := range []int{1, 3, 256} {
			got, e := Apply(of(rows, 4096, all8(rows*4096, c.a)...), all8(4096, c.x))
			wantList(t, "Apply", slices.Repeat([]int32{c.want}, rows), got, e)
		}
	}
}

// productWhole is a product, reckoned in 64 bits: of 4096 columns at most it stays far within them.
func productWhole(m api.Mat, x []int8) []int32 {
	y := make([]int32, m.Rows)
	for row := range y {
		var sum int64
		for col, b := range x {
			sum += int64(m.V[row*m.Cols+col]) * int64(b)
		}
		y[row] = round.Wrap(sum)
	}
	return y
}

func TestP41ApplyIsTheProduct(t *testing.T) {
	next := steady(3)
	ms := append(right(), great()...)
	for range 200 {
		ms = append(ms, anyOf(next, int(next()%12), int(next()%12)))
	}
	for _, m := range ms {
		x := any8(next, m.Cols)
		got, e := Apply(m, x)
		wantList(t, "Apply", productWhole(m, x), got, e)
	}
}

func TestP41ApplyOfWhatDoesNotFit(t *testing.T) {
	for _, m := range append(right(), great()...) {
		for _, long := range []int{0, 1, 2, m.Cols - 1, m.Cols + 1, m.Rows, 2 * m.Cols, 4096, 4097} {
			if long >= 0 && long != m.Cols {
				got, e := Apply(m, make([]int8, long))
				refusedList(t, "Apply", api.ErrShape, got, e)
			}
		}
	}
	if got, e := Apply(of(2, 2, 1, 2, 3, 4), nil); e != api.ErrShape || len(got) != 0 {
		t.Errorf("Apply with none: %v, %d", got, e)
	}
	for _, m := range wrong() {
		for _, long := range []int{0, 1, max(0, min(m.Cols, 5000)), max(0, min(m.Rows, 5000)), len(m.V)} {
			got, e := Apply(m, make([]int8, long))
			refusedList(t, "Apply of one that isn't right", api.ErrShape, got, e)
		}
	}
}

func TestP41ManyAreOfEach(t *testing.T) {
	m := of(2, 3, 1, 2, 3, -4, 5, -128)
	got, e := Many(m, []int8{1, 0, 0}, []int8{0, 1, 0}, []int8{1, -1, -128})
	wantLists(t, "Many", [][]int32{{1, -4}, {2, 5}, {-385, 16375}}, got, e)
	got, e = Many(m, []int8{0, 0, 1})
	wantLists(t, "Many of one", [][]int32{{3, -128}}, got, e)
	for _, xs := range [][][]int8{nil, {}} {
		got, e = Many(m, xs...)
		wantLists(t, "Many of none", nil, got, e)
	}
	got, e = Many(of(2, 0), nil, []int8{}, nil)
	wantLists(t, "Many of no columns", [][]int32{{0, 0}, {0, 0}, {0, 0}}, got, e)
	got, e = Many(of(0, 1), []int8{1}, []int8{2})
	wantLists(t, "Many of no rows", [][]int32{{}, {}}, got, e)
	got, e = Many(api.Mat{}, nil, nil)
	wantLists(t, "Many of neither", [][]int32{nil, nil}, got, e)
	next := steady(4)
	for _, m := range append(right(), great()[0], anyOf(next, 9, 11)) {
		var xs [][]int8
		var wanted [][]int32
		for range 5 {
			x := any8(next, m.Cols)
			xs, wanted = append(xs, x), append(wanted, productWhole(m, x))
		}
		got, e := Many(m, xs...)
		wantLists(t, "Many", wanted, got, e)
	}
}

func TestP41ManyOfWhatDoesNotFit(t *testing.T) {
	m := of(2, 2, 1, 2, 3, 4)
	for _, bad := range [][]int8{nil, {}, {1}, {1, 2, 3}, make([]int8, 4096)} {
		got, e := Many(m, bad)
		refusedList(t, "Many of a wrong one", api.ErrShape, got, e)
		for n := 2; n < 6; n++ {
			for at := range n {
				xs := slices.Repeat([][]int8{{5, 6}}, n)
				xs[at] = bad
				got, e := Many(m, xs...)
				refusedList(t, "Many with a wrong one", api.ErrShape, got, e)
			}
		}
	}
	got, e := Many(of(3, 0), nil, []int8{1})
	refusedList(t, "Many of no columns", api.ErrShape, got, e)
	for _, m := range wrong() {
		x := make([]int8, max(0, min(m.Cols, 5000)))
		for n := 1; n < 4; n++ {
			got, e := Many(m, slices.Repeat([][]int8{x}, n)...)
			refusedList(t, "Many of one that isn't right", api.ErrShape, got, e)
		}
		// Of no rows none has the error.
		got, e := Many(m)
		wantLists(t, "Many of none", nil, got, e)
	}
}

func TestP41ManyThatAreRefusedAreSoonRefused(t *testing.T) {
	xs := make([][]int8, 1<<20)
	xs[len(xs)-1] = []int8{1}
	got, e := Many(of(4096, 0), xs...)
	refusedList(t, "Many", api.ErrShape, got, e)
}

// places are where a side may be cut, at and beyond its ends, and at the ends of all numbers.
func places(side int) []int {
	return []int{math.MinInt, math.MinInt + 1, -4096, -2, -1, 0, 1, side / 2, side - 1, side, side + 1, 4096, 4097, 1 << 32, math.MaxInt - 1, math.MaxInt}
}

// cut are the numbers of m's rows and columns, gone through one by one.
func cut(m api.Mat, fromRow, toRow, fromCol, toCol int) api.Mat {
	some := of(toRow-fromRow, toCol-fromCol)
	for row := fromRow; row < toRow; row++ {
		for col := fromCol; col < toCol; col++ {
			some.V = append(some.V, m.V[row*m.Cols+col])
		}
	}
	return some
}

func TestP42RowsAndColsOfExamples(t *testing.T) {
	m := of(2, 3, 1, 2, 3, -4, 5, -128)
	got, e := Rows(m, 1, 2)
	want(t, "Rows 1 to 2", of(1, 3, -4, 5, -128), got, e)
	got, e = Rows(m, 0, 1)
	want(t, "Rows 0 to 1", of(1, 3, 1, 2, 3), got, e)
	got, e = Rows(m, 0, 2)
	want(t, "Rows 0 to 2", m, got, e)
	got, e = Rows(m, 2, 2)
	want(t, "Rows 2 to 2", of(0, 3), got, e)
	got, e = Cols(m, 1, 2)
	want(t, "Cols 1 to 2", of(2, 1, 2, 5), got, e)
	got, e = Cols(m, 1, 3)
	want(t, "Cols 1 to 3", of(2, 2, 2, 3, 5, -128), got, e)
	got, e = Cols(m, 0, 3)
	want(t, "Cols 0 to 3", m, got, e)
	got, e = Cols(m, 0, 0)
	want(t, "Cols 0 to 0", of(2, 0), got, e)
}

func TestP42RowsAndColsFromAndTo(t *testing.T) {
	for _, m := range append(right(), great()[0]) {
		for _, from := range places(m.Rows) {
			for _, to := range places(m.Rows) {
				got, e := Rows(m, from, to)
				if from < 0 || from > to || to > m.Rows {
					refused(t, "Rows", api.ErrArg, got, e)
				} else {
					want(t, "Rows", cut(m, from, to, 0, m.Cols), got, e)
				}
			}
		}
		for _, from := range places(m.Cols) {
			for _, to := range places(m.Cols) {
				got, e := Cols(m, from, to)
				if from < 0 || from > to || to > m.Cols {
					refused(t, "Cols", api.ErrArg, got, e)
				} else {
					want(t, "Cols", cut(m, 0, m.Rows, from, to), got, e)
				}
			}
		}
	}
}

func TestP42OfAMatrixThatIsNotRight(t *testing.T) {
	for _, m := range wrong() {
		for _, c := range [][2]int{{0, 0}, {0, 1}, {0, m.Rows}, {0, m.Cols}, {-1, math.MaxInt}, {5, math.MinInt}, {2, 1}} {
			got, e := Rows(m, c[0], c[1])
			refused(t, "Rows", api.ErrShape, got, e)
			got, e = Cols(m, c[0], c[1])
			refused(t, "Cols", api.ErrShape, got, e)
		}
		if got, e := Wide(m); e != api.ErrShape || !sameGrid(got, api.Grid{}) {
			t.Errorf("Wide of %d by %d of %d: %d by %d of %d, %d", m.Rows, m.Cols, len(m.V), got.Rows, got.Cols, len(got.V), e)
		}
	}
}

func TestP42WideIsOfTheSameNumbers(t *testing.T) {
	got, e := Wide(of(2, 3, 1, -2, 127, 0, -1, -128))
	if wanted := gridOf(2, 3, 1, -2, 127, 0, -1, -128); e != api.OK || !sameGrid(got, wanted) {
		t.Errorf("Wide: %v, %d", got, e)
	}
	for _, m := range append(right(), great()...) {
		got, e := Wide(m)
		wanted := gridOf(m.Rows, m.Cols)
		for _, x := range m.V {
			wanted.V = append(wanted.V, int32(x))
		}
		if e != api.OK || !sameGrid(got, wanted) {
			t.Errorf("Wide of %d by %d: %d", m.Rows, m.Cols, e)
		}
		back, e := Narrow(got, 1, 0)
		want(t, "wide and narrow", m, back, e)
	}
}

// quant is x times by, by 2^n: the nearest whole number, of two the even one, brought to 8 bits; in numbers of any size.
func quant(x, by int32, n int) int8 {
	n = min(max(n, 0), 62)
	y := new(big.Int).Mul(big.NewInt(int64(x)), big.NewInt(int64(by)))
	unit := new(big.Int).Lsh(big.NewInt(1), uint(n))
	q, rest := new(big.Int).DivMod(y, unit, new(big.Int))
	side := rest.Lsh(rest, 1).Cmp(unit)
	if side > 0 || side == 0 && q.Bit(0) == 1 {
		q.Add(q, big.NewInt(1))
	}
	return int8(min(max(q.Int64(), -128), 127))
}

func TestP42NarrowOfExamples(t *testing.T) {
	for _, c := range []struct {
		by   int32
		n    int
		xs   []int32
		want []int8
	}{
		{3, 4, []int32{1000, -40, 8}, []int8{127, -8, 2}},
		{1, 0, []int32{126, 127, 128, 255, 256, -127, -128, -129, -256}, []int8{126, 127, 127, 127, 127, -127, -128, -128, -128}},
		{1, 0, []int32{math.MaxInt32, math.MinInt32, math.MaxInt32 - 1, math.MinInt32 + 1}, []int8{127, -128, 127, -128}},
		{1, 1, []int32{1, 3, 5, 7, -1, -3, -5, -7}, []int8{0, 2, 2, 4, 0, -2, -2, -4}},
		{1, 1, []int32{253, 254, 255, 256, -253, -255, -256, -257, -258}, []int8{126, 127, 127, 127, -126, -128, -128, -128, -128}},
		{1, 2, []int32{1, 2, 3, 6, -1, -2, -3, -6}, []int8{0, 0, 1, 2, 0, 0, -1, -2}},
		{-1, 0, []int32{1, -1, 128, -128, math.MinInt32}, []int8{-1, 1, -128, 127, 127}},
		{0, 0, []int32{1, -1, math.MaxInt32, math.MinInt32}, []int8{0, 0, 0, 0}},
		{0, 62, []int32{math.MaxInt32, math.MinInt32}, []int8{0, 0}},
		{1, -1, []int32{5, 200, -200}, []int8{5, 127, -128}},
		{1, math.MinInt, []int32{5, -5}, []int8{5, -5}},
		{math.MinInt32, 62, []int32{math.MinInt32, math.MinInt32 / 2, math.MaxInt32}, []int8{1, 0, -1}},
		{math.MinInt32, 63, []int32{math.MinInt32, math.MaxInt32}, []int8{1, -1}},
		{math.MinInt32, math.MaxInt, []int32{math.MinInt32, math.MaxInt32}, []int8{1, -1}},
		{math.MinInt32, 31, []int32{5, -5, 128, 129, -128}, []int8{-5, 5, -128, -128, 127}},
		{math.MaxInt32, 31, []int32{5, -5, 128, -129}, []int8{5, -5, 127, -128}},
	} {
		got, e := Narrow(gridOf(1, len(c.xs), c.xs...), c.by, c.n)
		want(t, "Narrow of a row", of(1, len(c.want), c.want...), got, e)
		got, e = Narrow(gridOf(len(c.xs), 1, c.xs...), c.by, c.n)
		want(t, "Narrow of a column", of(len(c.want), 1, c.want...), got, e)
	}
}

func TestP42NarrowIsQuantOfEach(t *testing.T) {
	next := steady(5)
	pick := func(xs ...int32) int32 { return xs[next()%uint64(len(xs))] }
	for _, c := range [][2]int{{0, 0}, {0, 3}, {3, 0}, {0, 4096}, {4096, 0}, {1, 1}, {2, 3}, {7, 5}, {40, 30}, {1, 4096}, {4096, 1}} {
		for range 20 {
			by, n := pick(0, 1, -1, 3, math.MaxInt32, math.MinInt32, int32(next()), int32(next())>>20), int(next()%70)-4
			g, wanted := gridOf(c[0], c[1]), of(c[0], c[1])
			for range c[0] * c[1] {
				x := int32(next()) >> (next() % 32)
				g.V, wanted.V = append(g.V, x), append(wanted.V, quant(x, by, n))
			}
			got, e := Narrow(g, by, n)
			want(t, "Narrow", wanted, got, e)
		}
	}
}

func TestP42NarrowOfManyCells(t *testing.T) {
	next := steady(6)
	for _, c := range [][2]int{{1024, 1024}, {4096, 256}, {256, 4096}, {3813, 275}} {
		g, wanted := gridOfNoughts(c[0], c[1]), noughts(c[0], c[1])
		for i := range g.V {
			g.V[i] = int32(next()) >> 20
			wanted.V[i] = round.Quant(g.V[i], 5, 3)
		}
		got, e := Narrow(g, 5, 3)
		want(t, "Narrow", wanted, got, e)
	}
	for _, m := range tooMany() {
		got, e := Narrow(gridOfNoughts(m.Rows, m.Cols), 1, 0)
		refused(t, "Narrow of too many", api.ErrShape, got, e)
	}
}

func TestP42NarrowOfAGridThatIsNotRight(t *testing.T) {
	for _, m := range wrong() {
		for _, c := range []struct {
			by int32
			n  int
		}{{1, 0}, {0, -1}, {math.MinInt32, 62}, {math.MaxInt32, math.MaxInt}, {-1, math.MinInt}} {
			got, e := Narrow(gridOf(m.Rows, m.Cols, make([]int32, len(m.V))...), c.by, c.n)
			refused(t, "Narrow", api.ErrShape, got, e)
		}
	}
}

func TestP43SpansOfExamples(t *testing.T) {
	for _, c := range []struct {
		n, parts int
		want     []int
	}{
		{10, 3, []int{0, 3, 6, 10}}, {0, 1, []int{0, 0}}, {0, 2, []int{0, 0, 0}}, {1, 1, []int{0, 1}}, {5, 1, []int{0, 5}}, {1, 2, []int{0, 0, 1}},
		{2, 4, []int{0, 0, 1, 1, 2}}, {4, 4, []int{0, 1, 2, 3, 4}}, {3, 5, []int{0, 0, 1, 1, 2, 3}}, {7, 4, []int{0, 1, 3, 5, 7}}, {8, 4, []int{0, 2, 4, 6, 8}},
		{1 << 40, 1, []int{0, 1 << 40}}, {1 << 40, 2, []int{0, 1 << 39, 1 << 40}}, {1 << 40, 3, []int{0, 366503875925, 733007751850, 1099511627776}},
	} {
		got, e := Spans(c.n, c.parts)
		wantList(t, "Spans", c.want, got, e)
	}
}

func TestP43SpansAreWholeQuotients(t *testing.T) {
	for _, n := range []int{0, 1, 2, 3, 7, 10, 64, 100, 255, 256, 257, 4095, 4096, 4097, 1 << 20, 1<<31 - 1, 1 << 31, 1<<32 + 5, 1<<39 + 12345, 1<<40 - 1, 1 << 40} {
		for _, parts := range []int{1, 2, 3, 4, 5, 7, 8, 16, 100, 1000, 4095, 4096} {
			wanted := make([]int, parts+1)
			for i := range wanted {
				whole := new(big.Int).Mul(big.NewInt(int64(i)), big.NewInt(int64(n)))
				wanted[i] = int(whole.Quo(whole, big.NewInt(int64(parts))).Int64())
			}
			got, e := Spans(n, parts)
			wantList(t, "Spans", wanted, got, e)
			if len(got) == parts+1 && (got[0] != 0 || got[parts] != n || !slices.IsSorted(got)) {
				t.Errorf("Spans(%d, %d): they don't go from 0 to all", n, parts)
			}
		}
	}
}

func TestP43SpansOfWhatIsNone(t *testing.T) {
	for _, n := range []int{math.MinInt, -1 << 40, -2, -1, 1<<40 + 1, 1 << 41, 1 << 62, math.MaxInt} {
		for _, parts := range []int{math.MinInt, -1, 0, 1, 2, 4096, 4097, math.MaxInt} {
			got, e := Spans(n, parts)
			refusedList(t, "Spans", api.ErrArg, got, e)
		}
	}
	for _, parts := range []int{math.MinInt, -1 << 40, -4096, -2, -1, 0, 4097, 4098, 1 << 32, 1<<32 + 1, math.MaxInt} {
		for _, n := range []int{0, 1, 10, 4096, 1 << 40} {
			got, e := Spans(n, parts)
			refusedList(t, "Spans", api.ErrArg, got, e)
		}
	}
}

// cuts are where a side is cut, in order, both ends with it; some pieces are of nothing.
func cuts(next func() uint64, side int) []int {
	at := []int{0, side}
	for range next() % 5 {
		at = append(at, int(next()%uint64(side+1)))
	}
	slices.Sort(at)
	return at
}

// behind are the products of some rows after rows, one behind the other.
func behind(t *testing.T, m api.Mat, x []int8, at []int) []int32 {
	var y []int32
	for i := range len(at) - 1 {
		some := good[api.Mat](t)(Rows(m, at[i], at[i+1]))
		y = append(y, good[[]int32](t)(Apply(some, x))...)
	}
	return y
}

// summed are the products of some columns after columns, each with its part of x, summed and wrapped.
func summed(t *testing.T, m api.Mat, x []int8, at []int) []int32 {
	y := make([]int32, m.Rows)
	for i := range len(at) - 1 {
		some := good[api.Mat](t)(Cols(m, at[i], at[i+1]))
		for row, part := range good[[]int32](t)(Apply(some, x[at[i]:at[i+1]])) {
			y[row] = round.Sum(y[row], part)
		}
	}
	return y
}

func TestP44TheProductInParts(t *testing.T) {
	next := steady(7)
	ms := append(right(), great()[:3]...)
	for range 100 {
		ms = append(ms, anyOf(next, int(next()%12), int(next()%12)))
	}
	ms = append(ms, of(2, 4096, append(all8(4096, -128), all8(4096, 127)...)...))
	for i, m := range ms {
		x := any8(next, m.Cols)
		if i%3 == 0 {
			x = all8(m.Cols, -128)
		}
		whole := good[[]int32](t)(Apply(m, x))
		for _, parts := range []int{1, 2, 3, 4, 16} {
			wantList(t, "rows by spans", whole, behind(t, m, x, good[[]int](t)(Spans(m.Rows, parts))), api.OK)
			wantList(t, "columns by spans", whole, summed(t, m, x, good[[]int](t)(Spans(m.Cols, parts))), api.OK)
		}
		for range 3 {
			wantList(t, "rows by any cuts", whole, behind(t, m, x, cuts(next, m.Rows)), api.OK)
			wantList(t, "columns by any cuts", whole, summed(t, m, x, cuts(next, m.Cols)), api.OK)
		}
	}
}

func TestP44OneByOneIsTheProduct(t *testing.T) {
	next := steady(8)
	for _, m := range []api.Mat{anyOf(next, 3, 4096), anyOf(next, 4096, 3), anyOf(next, 5, 7)} {
		x := any8(next, m.Cols)
		whole := good[[]int32](t)(Apply(m, x))
		wantList(t, "row by row", whole, behind(t, m, x, good[[]int](t)(Spans(m.Rows, m.Rows))), api.OK)
		wantList(t, "column by column", whole, summed(t, m, x, good[[]int](t)(Spans(m.Cols, m.Cols))), api.OK)
		wantList(t, "more parts than columns", whole, summed(t, m, x, good[[]int](t)(Spans(m.Cols, 4096))), api.OK)
	}
}

// fenced is a copy of xs with spare room behind it, and the whole of it.
func fenced[N int8 | int32](xs []N) ([]N, []N) {
	all := append(slices.Clone(xs), 11, 22, 33, 44, 55, 66)
	return all[:len(xs)], all
}

// given is what is handed in, each list with spare room, and all of these with it.
type given struct {
	m       api.Mat
	g       api.Grid
	x, z    []int8
	small   [][]int8
	numbers []int32
}

func handIn() given {
	next := steady(9)
	var in given
	v, all := fenced(any8(next, 9))
	in.m, in.small = of(3, 3, v...), append(in.small, all)
	in.x, all = fenced(any8(next, 3))
	in.small = append(in.small, all)
	in.z, all = fenced(any8(next, 3))
	in.small = append(in.small, all)
	cells, numbers := fenced([]int32{1, -2, 3, 400, -500, 6, 7, 8, 9})
	in.g, in.numbers = gridOf(3, 3, cells...), numbers
	return in
}

// answers are of all the calls that answer lists, some of which could hand out what they were given.
type answers struct {
	small [][]int8
	sums  [][]int32
	at    [][]int
}

func ask(t *testing.T, in given) answers {
	var a answers
	one, mat := good[[]int32](t), good[api.Mat](t)
	many := good[[][]int32](t)
	a.sums = append(a.sums, one(Apply(in.m, in.x)), one(Apply(in.m, in.z)), good[api.Grid](t)(Wide(in.m)).V)
	a.sums = append(a.sums, many(Many(in.m, in.x))...)
	a.sums = append(a.sums, many(Many(in.m, in.x, in.z, in.x))...)
	for _, m := range []api.Mat{
		mat(Rows(in.m, 0, 3)), mat(Rows(in.m, 0, 1)), mat(Rows(in.m, 2, 3)), mat(Rows(in.m, 1, 1)), mat(Cols(in.m, 0, 3)), mat(Cols(in.m, 1, 2)), mat(Cols(in.m, 0, 0)),
		mat(Narrow(in.g, 1, 0)), mat(Narrow(in.g, 3, 2)),
	} {
		a.small = append(a.small, m.V)
	}
	a.at = append(a.at, good[[]int](t)(Spans(10, 3)), good[[]int](t)(Spans(0, 1)))
	return a
}

// copied are copies of lists.
func copied[N any](lists [][]N) [][]N {
	var all [][]N
	for _, list := range lists {
		all = append(all, slices.Clone(list))
	}
	return all
}

// spoil changes all of each list, its spare room with it.
func spoil[N int8 | int32 | int](lists [][]N) {
	for _, list := range lists {
		whole := list[:cap(list)]
		for i := range whole {
			whole[i] += 3
		}
	}
}

// alike holds lists against what they were.
func alike[N comparable](t *testing.T, what string, was, are [][]N) {
	t.Helper()
	if !slices.EqualFunc(was, are, slices.Equal[[]N]) {
		t.Errorf("%s: %v, not %v", what, are, was)
	}
}

func TestP44AnswersAreNewMemory(t *testing.T) {
	in := handIn()
	wasSmall, wasNumbers := copied(in.small), slices.Clone(in.numbers)
	first := ask(t, in)
	was := answers{copied(first.small), copied(first.sums), copied(first.at)}
	other := ask(t, in)
	spoil(other.small)
	spoil(other.sums)
	spoil(other.at)
	alike(t, "what was handed in", wasSmall, in.small)
	alike(t, "the grid that was handed in", [][]int32{wasNumbers}, [][]int32{in.numbers})
	next := ask(t, in)
	alike(t, "matrices of the next answer", was.small, next.small)
	alike(t, "sums of the next answer", was.sums, next.sums)
	alike(t, "spans of the next answer", was.at, next.at)
	spoil(in.small)
	spoil([][]int32{in.numbers})
	alike(t, "matrices", was.small, first.small)
	alike(t, "sums", was.sums, first.sums)
	alike(t, "spans", was.at, first.at)
}

func TestP44TheListsOfOneAnswerShareNothing(t *testing.T) {
	x := []int8{5, 6}
	m := of(2, 2, 1, 2, 3, -4)
	got := good[[][]int32](t)(Many(m, x, x, x))
	for i := range got {
		for k := range got {
			got[k] = got[k][:2]
			got[k][0], got[k][1] = 17, -9
		}
		whole := got[i][:cap(got[i])]
		for k := range whole {
			whole[k] = 99
		}
		for k, y := range got {
			if k != i && !slices.Equal(y, []int32{17, -9}) {
				t.Errorf("list %d changed list %d: %v", i, k, y)
			}
		}
	}
}

func TestP44TheListOfRowsStaysAsItIs(t *testing.T) {
	all := [][]int8{{1, 0}, {0, 1}, {7, 7}}
	xs := all[:2]
	got, e := Many(of(2, 2, 1, 2, 3, -4), xs...)
	wantLists(t, "Many", [][]int32{{1, 3}, {2, -4}}, got, e)
	alike(t, "the list of rows", [][]int8{{1, 0}, {0, 1}, {7, 7}}, all)
	ms := []api.Mat{of(1, 1, 1), of(0, 0), of(1, 2, 3, 4)}
	if !Right(ms[:2]...) || !same(ms[0], of(1, 1, 1)) || !same(ms[1], of(0, 0)) || !same(ms[2], of(1, 2, 3, 4)) {
		t.Errorf("Right: %v", ms)
	}
}
