package grid

import (
	"math"
	"math/big"
	"slices"
	"testing"

	"peloton/api"
)

// of is a grid of the given cells.
func of(rows, cols int, cells ...int32) api.Grid {
	return api.Grid{Rows: rows, Cols: cols, V: cells}
}

// same: have the grids the same sides and the same cells?
func same(a, b api.Grid) bool {
	return a.Rows == b.Rows && a.Cols == b.Cols && slices.Equal(a.V, b.V)
}

// steady answers numbers by a fixed rule, so that a test is the same each time.
func steady(seed uint64) func() uint64 {
	return func() uint64 {
		seed = seed*6364136223846793005 + 1442695040888963407
		return seed ^ seed>>29
	}
}

// any32 is a grid whose cells are by next, of all 32 bits.
func any32(next func() uint64, rows, cols int) api.Grid {
	g := of(rows, cols)
	for range rows * cols {
		g.V = append(g.V, int32(next()>>16))
	}
	return g
}

// noughts is a grid of noughts, of any sides that have cells.
func noughts(rows, cols int) api.Grid { return of(rows, cols, make([]int32, rows*cols)...) }

// wrapWhole is x's rest by 2^32, from -2^31 on.
func wrapWhole(x *big.Int) int32 {
	power := func(n uint) *big.Int { return new(big.Int).Lsh(big.NewInt(1), n) }
	rest := new(big.Int).Mod(x, power(32))
	if rest.Cmp(power(31)) >= 0 {
		rest.Sub(rest, power(32))
	}
	return int32(rest.Int64())
}

// want holds an answer without an error against what is wanted.
func want(t *testing.T, what string, wanted, got api.Grid, e api.Errno) {
	t.Helper()
	if e != api.OK || !same(got, wanted) {
		if len(got.V)+len(wanted.V) > 100 {
			got.V, wanted.V = nil, nil
		}
		t.Errorf("%s: %v and %d, not %v", what, got, e, wanted)
	}
}

// refused holds an answer against an error; all beside it is nothing.
func refused(t *testing.T, what string, wanted api.Errno, got api.Grid, e api.Errno) {
	t.Helper()
	if e != wanted || got.Rows != 0 || got.Cols != 0 || len(got.V) != 0 {
		t.Errorf("%s: %d by %d, %d cells, and %d, not %d", what, got.Rows, got.Cols, len(got.V), e, wanted)
	}
}

// done answers a grid that came without an error.
func done(t *testing.T) func(api.Grid, api.Errno) api.Grid {
	return func(g api.Grid, e api.Errno) api.Grid {
		t.Helper()
		if e != api.OK || !Right(g) {
			t.Fatalf("no grid: error %d", e)
		}
		return g
	}
}

// right are right grids: of no rows, of no columns, of neither, of one cell, of others.
func right() []api.Grid {
	next := steady(1)
	gs := []api.Grid{{}, of(0, 0, []int32{}...), of(0, 1), of(1, 0), of(0, 5), of(5, 0), of(0, 4096), of(4096, 0)}
	for _, c := range [][2]int{{1, 1}, {1, 2}, {2, 1}, {2, 2}, {3, 5}, {7, 4}, {1, 4096}, {4096, 1}, {4096, 3}} {
		gs = append(gs, any32(next, c[0], c[1]))
	}
	return gs
}

// wrong are grids that aren't right, in each way.
func wrong() []api.Grid {
	return []api.Grid{
		of(2, 2), of(2, 2, 1, 2, 3), of(2, 2, 1, 2, 3, 4, 5), of(0, 0, 1), of(0, 5, 1), of(5, 0, 1), of(1, 1), of(4096, 4096),
		of(-1, -1, 1), of(-2, -3, 1, 2, 3, 4, 5, 6), of(-1, 0), of(0, -1), of(-1, 1), of(1, -1, 1), of(-4096, 0),
		of(0, 4097), of(4097, 0), of(4097, 4097), noughts(1, 4097), noughts(4097, 1), noughts(4097, 2),
		of(math.MaxInt, 0), of(0, math.MaxInt), of(math.MinInt, 0), of(0, math.MinInt), of(math.MaxInt, math.MaxInt, 1), of(math.MaxInt, 1, 1), of(1, math.MaxInt, 1),
		of(math.MinInt, math.MinInt), of(math.MinInt, 2), of(2, math.MinInt), of(1<<32, 1<<32), of(1<<31, -1<<33), of(math.MaxInt, 2), of(math.MinInt, 1, 1),
	}
}

// large are right grids of more than 2^20 cells: 919 by 1141 are 2^20 and 3, and none has fewer.
func large() []api.Grid {
	return []api.Grid{noughts(919, 1141), noughts(1141, 919), noughts(1025, 1024), noughts(1024, 1025), noughts(4096, 257), noughts(257, 4096), noughts(4096, 4096)}
}

func TestP31RightIsAskedOfEach(t *testing.T) {
	if !Right() || !Right(nil...) || !Right([]api.Grid{}...) {
		t.Error("of none, one isn't right")
	}
	for _, g := range append(right(), large()...) {
		if !Right(g) {
			t.Errorf("%d by %d of %d isn't right", g.Rows, g.Cols, len(g.V))
		}
	}
	if gs := right(); !Right(gs...) {
		t.Error("all together aren't right")
	}
	for _, g := range wrong() {
		if Right(g) {
			t.Errorf("%d by %d of %d is right", g.Rows, g.Cols, len(g.V))
		}
		for at := range 3 {
			gs := []api.Grid{of(1, 1, 1), of(0, 3), of(2, 1, 4, 5)}
			gs[at] = g
			if Right(gs...) {
				t.Errorf("%d by %d of %d at %d is right among others", g.Rows, g.Cols, len(g.V), at)
			}
		}
	}
}

func TestP31NewIsOfNoughts(t *testing.T) {
	for _, c := range [][2]int{{0, 0}, {0, 1}, {1, 0}, {1, 1}, {2, 3}, {0, 4096}, {4096, 0}, {1, 4096}, {4096, 1}, {4096, 256}, {256, 4096}, {1024, 1024}, {255, 4096}, {275, 3813}, {2048, 512}} {
		got, e := New(c[0], c[1])
		want(t, "New", noughts(c[0], c[1]), got, e)
	}
}

func TestP31NewOfSidesThatAreNone(t *testing.T) {
	for _, c := range [][2]int{
		{-1, 0}, {0, -1}, {-1, -1}, {-1, 1}, {1, -1}, {-2, 3}, {4097, 0}, {0, 4097}, {4097, 1}, {1, 4097}, {4097, 4097}, {-1, 4097},
		{919, 1141}, {1141, 919}, {1025, 1024}, {1024, 1025}, {4096, 257}, {257, 4096}, {4096, 4096},
		{math.MaxInt, 0}, {0, math.MaxInt}, {math.MinInt, 0}, {0, math.MinInt}, {math.MaxInt, math.MaxInt}, {math.MinInt, math.MinInt},
		{math.MaxInt, 1}, {1, math.MinInt}, {math.MinInt, 2}, {1 << 32, 1 << 32}, {-1, math.MinInt}, {1 << 62, 4},
	} {
		got, e := New(c[0], c[1])
		refused(t, "New", api.ErrShape, got, e)
	}
}

// places are rows and columns at and beyond the ends of a side, and at the ends of all numbers.
func places(side int) []int {
	return []int{math.MinInt, math.MinInt + 1, -4096, -2, -1, 0, 1, side / 2, side - 1, side, side + 1, 4096, 4097, 1 << 32, math.MaxInt - 1, math.MaxInt}
}

func TestP31AtIsTheCell(t *testing.T) {
	for _, g := range append(right(), large()...) {
		for _, row := range places(g.Rows) {
			for _, col := range places(g.Cols) {
				x, ok := At(g, row, col)
				there := row >= 0 && row < g.Rows && col >= 0 && col < g.Cols
				if ok != there || !there && x != 0 || there && x != g.V[row*g.Cols+col] {
					t.Errorf("At of %d by %d, %d, %d: %d, %t", g.Rows, g.Cols, row, col, x, ok)
				}
			}
		}
	}
	g := of(2, 3, 1, 2, 3, -4, 5, math.MinInt32)
	for i, x := range g.V {
		if got, ok := At(g, i/3, i%3); got != x || !ok {
			t.Errorf("At(%d, %d): %d, not %d", i/3, i%3, got, x)
		}
	}
}

func TestP31AtOfAGridThatIsNotRight(t *testing.T) {
	for _, g := range wrong() {
		for _, row := range places(g.Rows) {
			for _, col := range places(g.Cols) {
				if x, ok := At(g, row, col); x != 0 || ok {
					t.Errorf("At of %d by %d of %d, %d, %d: %d, %t", g.Rows, g.Cols, len(g.V), row, col, x, ok)
				}
			}
		}
	}
}

// calls are all that take grids and may refuse one: with g alone, and among others.
func calls(g api.Grid) map[string]func() (api.Grid, api.Errno) {
	other := of(1, 1, 1)
	return map[string]func() (api.Grid, api.Errno){
		"Rows":          func() (api.Grid, api.Errno) { return Rows(g, 0, 0) },
		"Rows beyond":   func() (api.Grid, api.Errno) { return Rows(g, -1, math.MaxInt) },
		"Cols":          func() (api.Grid, api.Errno) { return Cols(g, 0, 0) },
		"Cols beyond":   func() (api.Grid, api.Errno) { return Cols(g, 5, math.MinInt) },
		"Turn":          func() (api.Grid, api.Errno) { return Turn(g) },
		"Stack":         func() (api.Grid, api.Errno) { return Stack(g) },
		"Stack behind":  func() (api.Grid, api.Errno) { return Stack(other, g) },
		"Stack ahead":   func() (api.Grid, api.Errno) { return Stack(g, other) },
		"Stack twice":   func() (api.Grid, api.Errno) { return Stack(g, g) },
		"Beside":        func() (api.Grid, api.Errno) { return Beside(g) },
		"Beside behind": func() (api.Grid, api.Errno) { return Beside(other, g) },
		"Beside ahead":  func() (api.Grid, api.Errno) { return Beside(g, other) },
		"Beside twice":  func() (api.Grid, api.Errno) { return Beside(g, g) },
		"Add":           func() (api.Grid, api.Errno) { return Add(g) },
		"Add behind":    func() (api.Grid, api.Errno) { return Add(other, g) },
		"Add ahead":     func() (api.Grid, api.Errno) { return Add(g, other) },
		"Add twice":     func() (api.Grid, api.Errno) { return Add(g, g) },
		"Times":         func() (api.Grid, api.Errno) { return Times(g, g) },
		"Times behind":  func() (api.Grid, api.Errno) { return Times(of(0, max(0, min(4096, g.Rows))), g) },
		"Times ahead":   func() (api.Grid, api.Errno) { return Times(g, of(max(0, min(4096, g.Cols)), 0)) },
	}
}

func TestP32AndP33OfAGridThatIsNotRightOrTooLarge(t *testing.T) {
	for _, g := range append(wrong(), large()...) {
		for what, call := range calls(g) {
			got, e := call()
			refused(t, what, api.ErrShape, got, e)
		}
	}
}

// cellsOf are the cells of g's rows and columns, gone through one by one.
func cellsOf(g api.Grid, fromRow, toRow, fromCol, toCol int) api.Grid {
	cut := of(toRow-fromRow, toCol-fromCol)
	for row := fromRow; row < toRow; row++ {
		for col := fromCol; col < toCol; col++ {
			cut.V = append(cut.V, g.V[row*g.Cols+col])
		}
	}
	return cut
}

func TestP32RowsAndColsOfExamples(t *testing.T) {
	g := of(2, 3, 1, 2, 3, 4, 5, 6)
	got, e := Rows(g, 1, 2)
	want(t, "Rows 1 to 2", of(1, 3, 4, 5, 6), got, e)
	got, e = Rows(g, 0, 1)
	want(t, "Rows 0 to 1", of(1, 3, 1, 2, 3), got, e)
	got, e = Rows(g, 2, 2)
	want(t, "Rows 2 to 2", of(0, 3), got, e)
	got, e = Cols(g, 1, 2)
	want(t, "Cols 1 to 2", of(2, 1, 2, 5), got, e)
	got, e = Cols(g, 1, 3)
	want(t, "Cols 1 to 3", of(2, 2, 2, 3, 5, 6), got, e)
	got, e = Cols(g, 0, 0)
	want(t, "Cols 0 to 0", of(2, 0), got, e)
	got, e = Cols(of(2, 2, 1, 2, 3, 4), 1, 2)
	want(t, "Cols of the chapter's example", of(2, 1, 2, 4), got, e)
}

func TestP32RowsAndColsFromAndTo(t *testing.T) {
	for _, g := range right() {
		for _, from := range places(g.Rows) {
			for _, to := range places(g.Rows) {
				got, e := Rows(g, from, to)
				if from < 0 || from > to || to > g.Rows {
					refused(t, "Rows", api.ErrArg, got, e)
				} else {
					want(t, "Rows", cellsOf(g, from, to, 0, g.Cols), got, e)
				}
			}
		}
		for _, from := range places(g.Cols) {
			for _, to := range places(g.Cols) {
				got, e := Cols(g, from, to)
				if from < 0 || from > to || to > g.Cols {
					refused(t, "Cols", api.ErrArg, got, e)
				} else {
					want(t, "Cols", cellsOf(g, 0, g.Rows, from, to), got, e)
				}
			}
		}
	}
}

func TestP32Turn(t *testing.T) {
	for _, c := range [][2]api.Grid{
		{{}, {}}, {of(0, 5), of(5, 0)}, {of(4096, 0), of(0, 4096)}, {of(1, 1, 7), of(1, 1, 7)},
		{of(2, 2, 1, 2, 3, 4), of(2, 2, 1, 3, 2, 4)},
		{of(2, 3, 1, 2, 3, 4, 5, 6), of(3, 2, 1, 4, 2, 5, 3, 6)},
		{of(1, 3, 1, 2, 3), of(3, 1, 1, 2, 3)},
	} {
		got, e := Turn(c[0])
		want(t, "Turn", c[1], got, e)
	}
	for _, g := range append(right(), any32(steady(2), 1024, 1024)) {
		got, e := Turn(g)
		if e != api.OK || got.Rows != g.Cols || got.Cols != g.Rows || len(got.V) != len(g.V) {
			t.Fatalf("Turn of %d by %d: %d by %d, %d", g.Rows, g.Cols, got.Rows, got.Cols, e)
		}
		for i, x := range g.V {
			if got.V[i%g.Cols*g.Rows+i/g.Cols] != x {
				t.Fatalf("Turn of %d by %d: another cell", g.Rows, g.Cols)
			}
		}
	}
}

func TestP32StackOfNoneOfOneOfSeveral(t *testing.T) {
	for _, c := range []struct {
		gs   []api.Grid
		want api.Grid
	}{
		{nil, of(0, 0)},
		{[]api.Grid{}, of(0, 0)},
		{[]api.Grid{{}}, of(0, 0)},
		{[]api.Grid{of(0, 7)}, of(0, 7)},
		{[]api.Grid{of(7, 0)}, of(7, 0)},
		{[]api.Grid{of(2, 2, 1, 2, 3, 4)}, of(2, 2, 1, 2, 3, 4)},
		{[]api.Grid{of(0, 2), of(0, 2)}, of(0, 2)},
		{[]api.Grid{of(3, 0), of(4, 0)}, of(7, 0)},
		{[]api.Grid{of(2000, 0), of(2096, 0)}, of(4096, 0)},
		{[]api.Grid{of(0, 2), of(1, 2, 5, 6), of(0, 2), of(2, 2, 1, 2, 3, 4), of(0, 2)}, of(3, 2, 5, 6, 1, 2, 3, 4)},
		{[]api.Grid{of(1, 1, 1), of(1, 1, 2), of(1, 1, 3), of(1, 1, 4)}, of(4, 1, 1, 2, 3, 4)},
		{[]api.Grid{noughts(4000, 256), noughts(96, 256)}, noughts(4096, 256)},
	} {
		got, e := Stack(c.gs...)
		want(t, "Stack", c.want, got, e)
	}
	for _, gs := range [][]api.Grid{
		{of(2, 2, 1, 2, 3, 4), of(1, 3, 1, 2, 3)}, {of(0, 0), of(0, 1)}, {of(1, 0), of(1, 1, 1)}, {of(1, 1, 1), of(1, 1, 1), of(0, 2)},
		{of(4096, 0), of(1, 0)}, {of(2048, 0), of(2048, 0), of(0, 0), of(1, 0)}, {noughts(4096, 1), noughts(1, 1)},
		{noughts(1024, 1024), noughts(1, 1024)}, {noughts(900, 1141), noughts(19, 1141)}, {noughts(256, 4096), noughts(1, 4096)}, {noughts(1, 1024), noughts(1024, 1024)},
		slices.Repeat([]api.Grid{noughts(1024, 1024)}, 1000), slices.Repeat([]api.Grid{of(4096, 0)}, 1000),
	} {
		got, e := Stack(gs...)
		refused(t, "Stack", api.ErrShape, got, e)
	}
}

func TestP32BesideOfNoneOfOneOfSeveral(t *testing.T) {
	for _, c := range []struct {
		gs   []api.Grid
		want api.Grid
	}{
		{nil, of(0, 0)},
		{[]api.Grid{}, of(0, 0)},
		{[]api.Grid{{}}, of(0, 0)},
		{[]api.Grid{of(0, 7)}, of(0, 7)},
		{[]api.Grid{of(7, 0)}, of(7, 0)},
		{[]api.Grid{of(2, 2, 1, 2, 3, 4)}, of(2, 2, 1, 2, 3, 4)},
		{[]api.Grid{of(2, 0), of(2, 0)}, of(2, 0)},
		{[]api.Grid{of(0, 3), of(0, 4)}, of(0, 7)},
		{[]api.Grid{of(0, 2000), of(0, 2096)}, of(0, 4096)},
		{[]api.Grid{of(2, 0), of(2, 1, 5, 6), of(2, 0), of(2, 2, 1, 2, 3, 4), of(2, 0)}, of(2, 3, 5, 1, 2, 6, 3, 4)},
		{[]api.Grid{of(1, 1, 1), of(1, 1, 2), of(1, 1, 3), of(1, 1, 4)}, of(1, 4, 1, 2, 3, 4)},
		{[]api.Grid{noughts(256, 4000), noughts(256, 96)}, noughts(256, 4096)},
	} {
		got, e := Beside(c.gs...)
		want(t, "Beside", c.want, got, e)
	}
	for _, gs := range [][]api.Grid{
		{of(2, 2, 1, 2, 3, 4), of(3, 1, 1, 2, 3)}, {of(0, 0), of(1, 0)}, {of(0, 1), of(1, 1, 1)}, {of(1, 1, 1), of(1, 1, 1), of(2, 0)},
		{of(0, 4096), of(0, 1)}, {of(0, 2048), of(0, 2048), of(0, 0), of(0, 1)}, {noughts(1, 4096), noughts(1, 1)},
		{noughts(1024, 1024), noughts(1024, 1)}, {noughts(1141, 900), noughts(1141, 19)}, {noughts(4096, 256), noughts(4096, 1)}, {noughts(1024, 1), noughts(1024, 1024)},
		slices.Repeat([]api.Grid{noughts(1024, 1024)}, 1000), slices.Repeat([]api.Grid{of(0, 4096)}, 1000),
	} {
		got, e := Beside(gs...)
		refused(t, "Beside", api.ErrShape, got, e)
	}
}

func TestP32ManyGridsOfNothingAreSoonLaid(t *testing.T) {
	got, e := Beside(slices.Repeat([]api.Grid{of(4096, 0)}, 1<<20)...)
	want(t, "Beside", of(4096, 0), got, e)
	got, e = Stack(slices.Repeat([]api.Grid{of(0, 4096)}, 1<<20)...)
	want(t, "Stack", of(0, 4096), got, e)
	got, e = Add(slices.Repeat([]api.Grid{of(4096, 0)}, 1<<20)...)
	want(t, "Add", of(4096, 0), got, e)
}

func TestP33AddOfNoneOfOneOfSeveral(t *testing.T) {
	for _, c := range []struct {
		gs   []api.Grid
		want api.Grid
	}{
		{nil, of(0, 0)},
		{[]api.Grid{}, of(0, 0)},
		{[]api.Grid{{}}, of(0, 0)},
		{[]api.Grid{of(0, 7), of(0, 7)}, of(0, 7)},
		{[]api.Grid{of(7, 0), of(7, 0), of(7, 0)}, of(7, 0)},
		{[]api.Grid{of(2, 2, 1, -2, 3, 4)}, of(2, 2, 1, -2, 3, 4)},
		{[]api.Grid{of(1, 3, 1, 2, 3), of(1, 3, 10, 20, 30)}, of(1, 3, 11, 22, 33)},
		{[]api.Grid{of(1, 1, math.MaxInt32), of(1, 1, 1)}, of(1, 1, math.MinInt32)},
		{[]api.Grid{of(1, 2, math.MinInt32, 5), of(1, 2, -1, 5)}, of(1, 2, math.MaxInt32, 10)},
		{[]api.Grid{of(1, 1, math.MaxInt32), of(1, 1, 1), of(1, 1, -5)}, of(1, 1, math.MaxInt32-4)},
		{slices.Repeat([]api.Grid{of(1, 2, math.MaxInt32, math.MinInt32)}, 1001), of(1, 2, math.MaxInt32-1000, math.MinInt32)},
	} {
		got, e := Add(c.gs...)
		want(t, "Add", c.want, got, e)
	}
	for _, gs := range [][]api.Grid{
		{of(1, 2, 1, 2), of(2, 1, 1, 2)}, {of(1, 2, 1, 2), of(1, 1, 1)}, {of(2, 1, 1, 2), of(1, 1, 1)},
		{of(0, 1), of(0, 0)}, {of(1, 0), of(0, 0)}, {of(0, 2), of(2, 0)}, {of(1, 1, 1), of(1, 1, 1), of(1, 2, 1, 1)},
		{of(2, 6, make([]int32, 12)...), of(3, 4, make([]int32, 12)...)},
	} {
		got, e := Add(gs...)
		refused(t, "Add", api.ErrShape, got, e)
	}
}

func TestP33AddIsTheRestOfTheWholeSum(t *testing.T) {
	next := steady(3)
	for n := 1; n < 12; n++ {
		rows, cols := int(next()%6), int(next()%6)
		gs := make([]api.Grid, n)
		for i := range gs {
			gs[i] = any32(next, rows, cols)
		}
		wanted := of(rows, cols)
		for i := range rows * cols {
			sum := new(big.Int)
			for _, g := range gs {
				sum.Add(sum, big.NewInt(int64(g.V[i])))
			}
			wanted.V = append(wanted.V, wrapWhole(sum))
		}
		got, e := Add(gs...)
		want(t, "Add", wanted, got, e)
	}
	g := any32(next, 4096, 256)
	got, e := Add(g, g)
	if e != api.OK || len(got.V) != 1<<20 || got.V[1<<20-1] != 2*g.V[1<<20-1] {
		t.Errorf("Add of 2^20 cells: %d", e)
	}
}

func TestP33TimesOfExamples(t *testing.T) {
	for _, c := range []struct{ a, b, want api.Grid }{
		{of(2, 2, 1, 2, 3, 4), of(2, 1, 1, 1), of(2, 1, 3, 7)},
		{of(2, 2, 1, 2, 3, 4), of(2, 2, 5, 6, 7, 8), of(2, 2, 19, 22, 43, 50)},
		{of(2, 3, 1, 2, 3, 4, 5, 6), of(3, 1, 1, 10, 100), of(2, 1, 321, 654)},
		{of(1, 3, 1, 10, 100), of(3, 2, 1, 4, 2, 5, 3, 6), of(1, 2, 321, 654)},
		{of(1, 1, -7), of(1, 1, 6), of(1, 1, -42)},
		{of(0, 0), of(0, 0), of(0, 0)},
		{of(0, 3), of(3, 1, 1, 2, 3), of(0, 1)},
		{of(1, 3, 1, 2, 3), of(3, 0), of(1, 0)},
		{of(2, 0), of(0, 2), of(2, 2, 0, 0, 0, 0)},
		{of(4096, 0), of(0, 0), of(4096, 0)},
		{of(1024, 0), of(0, 1024), noughts(1024, 1024)},
		{of(1, 1, math.MinInt32), of(1, 1, math.MinInt32), of(1, 1, 0)},
		{of(1, 1, math.MinInt32), of(1, 1, -1), of(1, 1, math.MinInt32)},
		{of(1, 1, math.MaxInt32), of(1, 1, math.MaxInt32), of(1, 1, 1)},
		{of(1, 2, math.MaxInt32, 1), of(2, 1, 1, 1), of(1, 1, math.MinInt32)},
		{of(1, 2, 1<<16, 1<<15), of(2, 1, 1<<16, 1<<16), of(1, 1, math.MinInt32)},
		{of(1, 3, math.MinInt32, math.MinInt32, -5), of(3, 1, 1, 1, 1), of(1, 1, -5)},
	} {
		got, e := Times(c.a, c.b)
		want(t, "Times", c.want, got, e)
	}
}

func TestP33TimesOfSidesThatDoNotFit(t *testing.T) {
	for _, c := range [][2]api.Grid{
		{of(2, 2, 1, 2, 3, 4), of(1, 2, 1, 1)}, {of(2, 2, 1, 2, 3, 4), of(3, 2, 1, 2, 3, 4, 5, 6)}, {of(0, 0), of(1, 0)}, {of(0, 1), of(0, 1)},
		{of(1, 0), of(1, 1, 1)}, {of(1, 1, 1), of(0, 1)},
		{of(919, 0), of(0, 1141)}, {of(1025, 0), of(0, 1024)}, {of(4096, 0), of(0, 4096)}, {of(4096, 0), of(0, 257)}, {noughts(1025, 1), noughts(1, 1024)}, {noughts(4096, 1), noughts(1, 4096)},
	} {
		got, e := Times(c[0], c[1])
		refused(t, "Times", api.ErrShape, got, e)
	}
}

// timesWhole is a product, reckoned in numbers of any size.
func timesWhole(a, b api.Grid) api.Grid {
	product := of(a.Rows, b.Cols)
	for row := range a.Rows {
		for col := range b.Cols {
			sum := new(big.Int)
			for i := range a.Cols {
				sum.Add(sum, new(big.Int).Mul(big.NewInt(int64(a.V[row*a.Cols+i])), big.NewInt(int64(b.V[i*b.Cols+col]))))
			}
			product.V = append(product.V, wrapWhole(sum))
		}
	}
	return product
}

func TestP33TimesIsTheRestOfTheWholeProduct(t *testing.T) {
	next := steady(4)
	for range 300 {
		rows, inner, cols := int(next()%7), int(next()%7), int(next()%7)
		a, b := any32(next, rows, inner), any32(next, inner, cols)
		got, e := Times(a, b)
		want(t, "Times", timesWhole(a, b), got, e)
	}
	a, b := any32(next, 2, 4096), any32(next, 4096, 3)
	got, e := Times(a, b)
	want(t, "Times of a long inner side", timesWhole(a, b), got, e)
	a, b = any32(next, 1024, 2), any32(next, 2, 1024)
	got, e = Times(a, b)
	want(t, "Times of 2^20 cells", timesWhole(a, b), got, e)
}

// cuts are where a side is cut, in order, both ends with it; some pieces are of nothing.
func cuts(next func() uint64, side int) []int {
	at := []int{0, side}
	for range next() % 5 {
		at = append(at, int(next()%uint64(side+1)))
	}
	slices.Sort(at)
	return at
}

// pieces are a grid's, by one of the two calls that cut.
func pieces(t *testing.T, cut func(api.Grid, int, int) (api.Grid, api.Errno), g api.Grid, at []int) []api.Grid {
	var gs []api.Grid
	for i := range len(at) - 1 {
		gs = append(gs, done(t)(cut(g, at[i], at[i+1])))
	}
	return gs
}

func TestP34CutAndLaidTogetherItIsTheGrid(t *testing.T) {
	next := steady(5)
	gs := append(right(), any32(next, 256, 4096), any32(next, 1000, 1048))
	for range 50 {
		gs = append(gs, any32(next, int(next()%12), int(next()%12)))
	}
	for _, g := range gs {
		for range 4 {
			got, e := Stack(pieces(t, Rows, g, cuts(next, g.Rows))...)
			want(t, "cut in rows and stacked", g, got, e)
			got, e = Beside(pieces(t, Cols, g, cuts(next, g.Cols))...)
			want(t, "cut in columns and laid beside", g, got, e)
		}
		got, e := Turn(done(t)(Turn(g)))
		want(t, "turned twice", g, got, e)
		turned := done(t)(Turn(g))
		got, e = Turn(done(t)(Beside(pieces(t, Cols, turned, cuts(next, g.Rows))...)))
		want(t, "turned, cut and turned", g, got, e)
	}
}

func TestP34TheProductInParts(t *testing.T) {
	next := steady(6)
	for range 200 {
		rows, inner, cols := int(next()%9), int(next()%9), int(next()%9)
		a, b := any32(next, rows, inner), any32(next, inner, cols)
		product := done(t)(Times(a, b))
		var stacked, beside, added []api.Grid
		for _, some := range pieces(t, Rows, a, cuts(next, rows)) {
			stacked = append(stacked, done(t)(Times(some, b)))
		}
		for _, some := range pieces(t, Cols, b, cuts(next, cols)) {
			beside = append(beside, done(t)(Times(a, some)))
		}
		at := cuts(next, inner)
		below := pieces(t, Rows, b, at)
		for i, some := range pieces(t, Cols, a, at) {
			added = append(added, done(t)(Times(some, below[i])))
		}
		got, e := Stack(stacked...)
		want(t, "what the rows make, stacked", product, got, e)
		got, e = Beside(beside...)
		want(t, "what the columns make, beside", product, got, e)
		got, e = Add(added...)
		want(t, "what the columns make with the rows, added", product, got, e)
	}
}

// fenced is a copy of g whose cells have spare room behind them, and the whole of it.
func fenced(g api.Grid) (api.Grid, []int32) {
	all := append(slices.Clone(g.V), 11, 22, 33, 44, 55, 66)
	return of(g.Rows, g.Cols, all[:len(g.V)]...), all
}

// answers are of all the calls that answer grids, some of which could hand out what they were given.
func answers(t *testing.T, a, b api.Grid) []api.Grid {
	all := []api.Grid{a, b}
	row, col := done(t)(Rows(b, 0, 1)), done(t)(Cols(b, 0, 1))
	return []api.Grid{
		done(t)(New(2, 3)), done(t)(Rows(a, 0, 2)), done(t)(Rows(a, 0, a.Rows)), done(t)(Cols(a, 0, a.Cols)), done(t)(Cols(a, 1, 2)),
		done(t)(Stack(a)), done(t)(Stack(a, b)), done(t)(Stack(all...)), done(t)(Beside(a)), done(t)(Beside(a, b)), done(t)(Beside(all...)),
		done(t)(Beside(of(a.Rows, 0), a)), done(t)(Stack(of(0, a.Cols), a)),
		done(t)(Turn(a)), done(t)(Turn(row)), done(t)(Turn(col)), done(t)(Add(a)), done(t)(Add(a, b)), done(t)(Add(all...)), done(t)(Times(a, b)), done(t)(Times(a, a)),
	}
}

func TestP34AnswersAreNewMemory(t *testing.T) {
	next := steady(7)
	a, wholeA := fenced(any32(next, 3, 3))
	b, wholeB := fenced(any32(next, 3, 3))
	wasA, wasB := slices.Clone(wholeA), slices.Clone(wholeB)
	first := answers(t, a, b)
	var was []api.Grid
	for _, g := range first {
		was = append(was, of(g.Rows, g.Cols, slices.Clone(g.V)...))
	}
	for _, g := range answers(t, a, b) {
		whole := g.V[:cap(g.V)]
		for i := range whole {
			whole[i]++
		}
	}
	if !slices.Equal(wholeA, wasA) || !slices.Equal(wholeB, wasB) {
		t.Error("what was handed in is another one")
	}
	for i, g := range answers(t, a, b) {
		if !same(g, was[i]) {
			t.Errorf("the next answer %d is another one", i)
		}
	}
	for i := range wholeA {
		wholeA[i]++
		wholeB[i]--
	}
	for i, g := range first {
		if !same(g, was[i]) {
			t.Errorf("answer %d is another one", i)
		}
	}
}

func TestP34TheListsOfGridsStayAsTheyAre(t *testing.T) {
	all := []api.Grid{of(2, 0), of(2, 1, 1, 2), of(2, 0), of(2, 1, 3, 4), of(9, 9)}
	gs := all[:4]
	if got := done(t)(Beside(gs...)); !same(got, of(2, 2, 1, 3, 2, 4)) {
		t.Errorf("Beside: %v", got)
	}
	for i, g := range []api.Grid{of(2, 0), of(2, 1, 1, 2), of(2, 0), of(2, 1, 3, 4), of(9, 9)} {
		if !same(all[i], g) {
			t.Errorf("the list's grid %d is another one: %v", i, all[i])
		}
	}
	gs = []api.Grid{of(0, 1), of(1, 1, 5), of(1, 1, 6)}
	if got := done(t)(Stack(gs...)); !same(got, of(2, 1, 5, 6)) || !same(gs[0], of(0, 1)) || !same(gs[1], of(1, 1, 5)) || !same(gs[2], of(1, 1, 6)) {
		t.Errorf("Stack: %v of %v", got, gs)
	}
	gs = []api.Grid{of(1, 1, 5), of(1, 1, 6)}
	if got := done(t)(Add(gs...)); !same(got, of(1, 1, 11)) || !same(gs[0], of(1, 1, 5)) || !same(gs[1], of(1, 1, 6)) {
		t.Errorf("Add: %v of %v", got, gs)
	}
}
