package weight

import (
	"bytes"
	"encoding/binary"
	"fmt"
	"hash/crc32"
	"math"
	"math/big"
	"slices"
	"testing"

	"peloton/api"
)

// steady answers numbers by a fixed rule, so that a test is the same each time.
func steady(seed uint64) func() uint64 {
	return func() uint64 {
		seed = seed*6364136223846793005 + 1442695040888963407
		return seed ^ seed>>29
	}
}

// someBytes are bytes by next.
func someBytes(next func() uint64, n int) []byte {
	b := make([]byte, n)
	for i := range b {
		b[i] = byte(next() >> 16)
	}
	return b
}

// of is a shape of the given numbers.
func of(layers, width, heads, inner, vocab, places int) api.Shape {
	return api.Shape{Layers: layers, Width: width, Heads: heads, Inner: inner, Vocab: vocab, Places: places}
}

// example, least, uneven and greatest are right shapes; no two numbers of uneven are the same.
func example() api.Shape  { return of(1, 4, 2, 3, 5, 8) }
func least() api.Shape    { return of(1, 2, 1, 1, 1, 1) }
func uneven() api.Shape   { return of(3, 12, 2, 7, 11, 250) }
func greatest() api.Shape { return of(16, 128, 16, 256, 512, 256) }

// rightShapes are some that are right; the greatest isn't among them.
func rightShapes() []api.Shape {
	return []api.Shape{
		example(), least(), uneven(),
		of(1, 2, 1, 1, 1, 256), of(16, 2, 1, 1, 1, 1), of(2, 32, 16, 5, 3, 9), of(1, 128, 1, 2, 3, 4), of(2, 6, 3, 256, 2, 77), of(1, 2, 1, 1, 512, 100), of(5, 8, 4, 16, 20, 30), of(2, 8, 1, 8, 8, 8),
	}
}

// numbersOf points at a shape's numbers, in their order.
func numbersOf(s *api.Shape) [6]*int {
	return [6]*int{&s.Layers, &s.Width, &s.Heads, &s.Inner, &s.Vocab, &s.Places}
}

// turned is a shape of which one number is another one.
func turned(s api.Shape, at, n int) api.Shape {
	*numbersOf(&s)[at] = n
	return s
}

// chapterRight: is a shape right, as the chapter says it?
func chapterRight(s api.Shape) bool {
	least, greatest := [6]int{1, 2, 1, 1, 1, 1}, [6]int{16, 128, 16, 256, 512, 256}
	for i, n := range numbersOf(&s) {
		if *n < least[i] || *n > greatest[i] {
			return false
		}
	}
	return s.Width%(2*s.Heads) == 0
}

// wrongShapes are some that aren't right: each number beyond each of its ends, and several numbers.
func wrongShapes() []api.Shape {
	var all []api.Shape
	for _, s := range []api.Shape{example(), least(), uneven(), greatest()} {
		for at, greatest := range []int{16, 128, 16, 256, 512, 256} {
			for _, n := range []int{0, -1, -2, -greatest, greatest + 1, greatest + 2, 2 * greatest, 65536, 65536 + *numbersOf(&s)[at], 1<<32 + *numbersOf(&s)[at], math.MinInt, math.MinInt + *numbersOf(&s)[at], math.MaxInt} {
				all = append(all, turned(s, at, n))
			}
		}
	}
	return append(all,
		api.Shape{}, of(-1, -4, -2, -3, -5, -8), of(1, 1, 1, 1, 1, 1), of(1, 3, 1, 1, 1, 1), of(1, 4, 3, 3, 5, 8), of(1, 6, 2, 3, 5, 8), of(1, 4, 4, 3, 5, 8), of(1, 16, 16, 3, 5, 8), of(1, 127, 1, 3, 5, 8),
		of(1, -4, 2, 3, 5, 8), of(1, 4, -2, 3, 5, 8), of(1, -4, -2, 3, 5, 8), of(0, 4, 3, 3, 5, 8), of(math.MaxInt, math.MaxInt, math.MaxInt, math.MaxInt, math.MaxInt, math.MaxInt), of(math.MinInt, math.MinInt, math.MinInt, math.MinInt, math.MinInt, math.MinInt))
}

// list is one of a weights' lists, where it stands, and whether it is a row of gains.
type list struct {
	numbers *[]int8
	gains   bool
	rows    int
	cols    int
}

// listsOf are all lists of weights of a shape, in the order of the chapter's file, and the sides that the chapter gives them.
func listsOf(s api.Shape, w *api.Weights) []list {
	d, n := s.Width, s.Inner
	all := []list{{&w.Embed.V, false, s.Vocab, d}}
	for i := range w.Blocks {
		b := &w.Blocks[i]
		all = append(all, list{&b.First, true, 1, d},
			list{&b.Q.V, false, d, d}, list{&b.K.V, false, d, d}, list{&b.V.V, false, d, d}, list{&b.O.V, false, d, d},
			list{&b.Second, true, 1, d}, list{&b.Up.V, false, n, d}, list{&b.Down.V, false, d, n})
	}
	return append(all, list{&w.Last, true, 1, d}, list{&w.Head.V, false, s.Vocab, d})
}

// matricesOf points at a weights' matrices.
func matricesOf(w *api.Weights) []*api.Mat {
	all := []*api.Mat{&w.Embed, &w.Head}
	for i := range w.Blocks {
		b := &w.Blocks[i]
		all = append(all, &b.Q, &b.K, &b.V, &b.O, &b.Up, &b.Down)
	}
	return all
}

// made are weights of a shape, whose numbers, list by list, are by next; made without the package.
func made(s api.Shape, next func(gain bool) int8) api.Weights {
	mat := func(rows, cols int) api.Mat { return api.Mat{Rows: rows, Cols: cols} }
	w := api.Weights{Shape: s, Embed: mat(s.Vocab, s.Width), Head: mat(s.Vocab, s.Width)}
	for range s.Layers {
		square := mat(s.Width, s.Width)
		w.Blocks = append(w.Blocks, api.Block{Q: square, K: square, V: square, O: square, Up: mat(s.Inner, s.Width), Down: mat(s.Width, s.Inner)})
	}
	for _, l := range listsOf(s, &w) {
		for range l.rows * l.cols {
			*l.numbers = append(*l.numbers, next(l.gains))
		}
	}
	return w
}

// any8 answers numbers of all 8 bits, gains too.
func any8(seed uint64) func(bool) int8 {
	next := steady(seed)
	return func(bool) int8 { return int8(next() >> 16) }
}

// grownWhole answers the numbers that weights have that grow out of a seed: reckoned as the chapter says, in numbers of any size.
func grownWhole(seed uint64) func(bool) int8 {
	x, unit := new(big.Int).SetUint64(seed), new(big.Int).Lsh(big.NewInt(1), 64)
	by, and := big.NewInt(6364136223846793005), big.NewInt(1442695040888963407)
	return func(gain bool) int8 {
		x.Mod(x.Add(x.Mul(x, by), and), unit)
		n := int(new(big.Int).Rsh(x, 56).Int64()) - 128
		if gain {
			n = int(math.Trunc(float64(n)/16)) + 16
		}
		return int8(n)
	}
}

// fileOf is the file of weights, written without the package.
func fileOf(w api.Weights) []byte {
	b := []byte("PELOTON1")
	for _, n := range numbersOf(&w.Shape) {
		b = binary.BigEndian.AppendUint16(b, uint16(*n))
	}
	for _, l := range listsOf(w.Shape, &w) {
		for _, n := range *l.numbers {
			b = append(b, byte((int(n)+256)%256))
		}
	}
	return signed(b)
}

// signed is b with its check sum behind it.
func signed(b []byte) []byte {
	return binary.BigEndian.AppendUint32(slices.Clone(b), crc32.ChecksumIEEE(b))
}

// copied are new weights of the same numbers.
func copied(w api.Weights) api.Weights {
	w.Blocks = slices.Clone(w.Blocks)
	for _, l := range listsOf(w.Shape, &w) {
		*l.numbers = slices.Clone(*l.numbers)
	}
	return w
}

// same: have weights the same shape, the same sides and the same numbers?
func same(a, b api.Weights) bool {
	if a.Shape != b.Shape || len(a.Blocks) != len(b.Blocks) {
		return false
	}
	others := matricesOf(&b)
	for i, m := range matricesOf(&a) {
		if m.Rows != others[i].Rows || m.Cols != others[i].Cols {
			return false
		}
	}
	lists := listsOf(b.Shape, &b)
	for i, l := range listsOf(a.Shape, &a) {
		if !slices.Equal(*l.numbers, *lists[i].numbers) {
			return false
		}
	}
	return true
}

// nothing: are these weights' zero value?
func nothing(w api.Weights) bool {
	return same(w, api.Weights{})
}

// good answers what came without an error.
func good[A any](t *testing.T) func(A, api.Errno) A {
	return func(a A, e api.Errno) A {
		t.Helper()
		if e != api.OK {
			t.Fatalf("nothing: error %d", e)
		}
		return a
	}
}

// holdParse holds a file against the weights that it is wanted to have.
func holdParse(t *testing.T, what string, b []byte, wanted api.Weights) {
	t.Helper()
	if got, e := Parse(b); e != api.OK || !same(got, wanted) {
		t.Errorf("%s: %d bytes: error %d, or other weights", what, len(b), e)
	}
}

// refuseParse holds a file that isn't right against its error; beside it there is nothing.
func refuseParse(t *testing.T, what string, b []byte, wanted api.Errno) {
	t.Helper()
	if got, e := Parse(b); e != wanted || !nothing(got) {
		t.Errorf("%s: %d bytes: error %d, not %d, or weights", what, len(b), e, wanted)
	}
}

// sumByBits is the check sum, its register bit by bit, as the chapter says.
func sumByBits(b []byte) uint32 {
	var register, by [32]bool
	for i := range register {
		register[i], by[i] = true, 0xEDB88320>>i&1 == 1
	}
	for _, x := range b {
		for i := range 8 {
			register[i] = register[i] != (x>>i&1 == 1)
		}
		for range 8 {
			left := register[0]
			copy(register[:], register[1:])
			register[31] = false
			for i := range register {
				register[i] = register[i] != (left && by[i])
			}
		}
	}
	var sum uint32
	for i := range register {
		if !register[i] {
			sum |= 1 << i
		}
	}
	return sum
}

func TestP71SumOfExamples(t *testing.T) {
	for text, wanted := range map[string]uint32{"123456789": 0xCBF43926, "": 0, "\x00": 0xD202EF8D, "\xff": 0xFF000000, "a": 0xE8B7BE43, "\xff\xff\xff\xff": 0xFFFFFFFF, "\x00\x00\x00\x00": 0x2144DF1C} {
		if got := Sum([]byte(text)); got != wanted {
			t.Errorf("Sum(%q): %08X, not %08X", text, got, wanted)
		}
	}
	for i, got := range []uint32{Sum(), Sum(nil), Sum([]byte{}), Sum(nil, nil), Sum([]byte{}, nil, []byte{})} {
		if got != 0 {
			t.Errorf("Sum of nothing, %d: %08X", i, got)
		}
	}
}

func TestP71SumIsReckonedAsTheChapterSays(t *testing.T) {
	hold := func(b []byte) {
		if got, wanted := Sum(b), sumByBits(b); got != wanted || got != crc32.ChecksumIEEE(b) {
			t.Errorf("Sum of %d bytes: %08X, not %08X", len(b), got, wanted)
		}
	}
	for x := range 256 {
		hold([]byte{byte(x)})
		hold([]byte{0, byte(x)})
		hold([]byte{byte(x), 255})
	}
	next := steady(1)
	for n := range 300 {
		hold(someBytes(next, n))
		hold(make([]byte, n))
		hold(bytes.Repeat([]byte{255}, n))
	}
	hold(someBytes(next, 70000))
}

func TestP71SumOfPieces(t *testing.T) {
	next := steady(2)
	for range 300 {
		b := someBytes(next, int(next()%50))
		wanted := sumByBits(b)
		var pieces [][]byte
		for left := b; len(left) > 0; {
			n := int(next() % uint64(len(left)+1))
			pieces, left = append(pieces, left[:n]), left[n:]
		}
		pieces = append(pieces, nil)
		if got := Sum(pieces...); got != wanted {
			t.Errorf("Sum of %d pieces: %08X, not %08X", len(pieces), got, wanted)
		}
		if got := Sum(b[:len(b)/2], nil, b[len(b)/2:]); got != wanted {
			t.Errorf("Sum of halves: %08X, not %08X", got, wanted)
		}
	}
	if a, b := Sum([]byte("ab"), []byte("c")), Sum([]byte("c"), []byte("ab")); a == b || a != sumByBits([]byte("abc")) || b != sumByBits([]byte("cab")) {
		t.Errorf("Sum in another order: %08X and %08X", a, b)
	}
}

func TestP71RightOfEachNumber(t *testing.T) {
	for _, s := range append(rightShapes(), greatest()) {
		if !Right(s) {
			t.Errorf("Right(%v): false", s)
		}
		for at := range numbersOf(&s) {
			for n := -20; n < 600; n++ {
				if x := turned(s, at, n); Right(x) != chapterRight(x) {
					t.Errorf("Right(%v): %t", x, Right(x))
				}
			}
		}
	}
	for _, s := range wrongShapes() {
		if Right(s) {
			t.Errorf("Right(%v): true", s)
		}
	}
}

func TestP71RightAtTheEndsOfEachNumber(t *testing.T) {
	for at, ends := range [][2]int{{1, 16}, {2, 128}, {1, 16}, {1, 256}, {1, 512}, {1, 256}} {
		// A width that twice the fewest heads divide, and twice the most.
		s := of(2, 32, 1, 3, 4, 5)
		for n, wanted := range map[int]bool{ends[0] - 1: false, ends[0]: true, ends[1]: true, ends[1] + 1: false} {
			if got := Right(turned(s, at, n)); got != wanted {
				t.Errorf("Right(%v): %t", turned(s, at, n), got)
			}
		}
	}
}

func TestP71RightOfWidthsAndHeads(t *testing.T) {
	for width := -300; width < 300; width++ {
		for heads := -40; heads < 40; heads++ {
			if s := of(1, width, heads, 3, 5, 8); Right(s) != chapterRight(s) {
				t.Errorf("Right(%v): %t", s, Right(s))
			}
		}
	}
	// Twice these heads wrap to nought, or to a number that divides.
	for _, heads := range []int{math.MinInt, 1 << 62, -1 << 62, 1<<62 + 1, math.MinInt + 1, math.MinInt + 2, math.MaxInt} {
		for _, width := range []int{0, 2, 4, 128, math.MinInt, math.MaxInt} {
			if s := of(1, width, heads, 3, 5, 8); Right(s) {
				t.Errorf("Right(%v): true", s)
			}
		}
	}
}

func TestP71CountOfExamples(t *testing.T) {
	for s, wanted := range map[api.Shape]int{
		example(): 140, least(): 30, greatest(): 2232448, uneven(): 3*(24+576+168) + 264 + 12,
		of(2, 4, 2, 3, 5, 8): 236, of(1, 4, 1, 3, 5, 8): 140, of(1, 4, 2, 4, 5, 8): 148, of(1, 4, 2, 3, 6, 8): 148, of(1, 4, 2, 3, 5, 256): 140, of(1, 8, 2, 3, 5, 8): 408,
	} {
		if got := Count(s); got != wanted {
			t.Errorf("Count(%v): %d, not %d", s, got, wanted)
		}
	}
}

func TestP71CountIsOfAllNumbers(t *testing.T) {
	for _, s := range append(rightShapes(), greatest()) {
		w, n := made(s, func(bool) int8 { return 0 }), 0
		for _, l := range listsOf(s, &w) {
			n += len(*l.numbers)
		}
		if got := Count(s); got != n {
			t.Errorf("Count(%v): %d, not %d", s, got, n)
		}
	}
	for _, s := range wrongShapes() {
		if got := Count(s); got != 0 {
			t.Errorf("Count(%v): %d", s, got)
		}
	}
}

// wrongWeights are weights in which just one thing isn't right, by what it is.
func wrongWeights(w api.Weights) map[string]api.Weights {
	all := map[string]api.Weights{}
	turn := func(what string, change func(x *api.Weights)) {
		x := copied(w)
		change(&x)
		all[what] = x
	}
	for i, m := range matricesOf(&w) {
		for off, name := range map[int]string{-1: "less", 1: "more"} {
			turn(fmt.Sprint("rows, ", name, ", of matrix ", i), func(x *api.Weights) { matricesOf(x)[i].Rows += off })
			turn(fmt.Sprint("columns, ", name, ", of matrix ", i), func(x *api.Weights) { matricesOf(x)[i].Cols += off })
			turn(fmt.Sprint("a row ", name, " in matrix ", i), func(x *api.Weights) {
				y := matricesOf(x)[i]
				y.Rows += off
				y.V = make([]int8, y.Rows*y.Cols)
			})
			turn(fmt.Sprint("a column ", name, " in matrix ", i), func(x *api.Weights) {
				y := matricesOf(x)[i]
				y.Cols += off
				y.V = make([]int8, y.Rows*y.Cols)
			})
		}
		turn(fmt.Sprint("a number less in matrix ", i), func(x *api.Weights) { y := matricesOf(x)[i]; y.V = y.V[1:] })
		turn(fmt.Sprint("a number more in matrix ", i), func(x *api.Weights) { y := matricesOf(x)[i]; y.V = append(y.V, 0) })
		turn(fmt.Sprint("no numbers in matrix ", i), func(x *api.Weights) { matricesOf(x)[i].V = nil })
		turn(fmt.Sprint("sides below 0 of matrix ", i), func(x *api.Weights) { y := matricesOf(x)[i]; y.Rows, y.Cols = -y.Rows, -y.Cols })
		turn(fmt.Sprint("nothing in matrix ", i), func(x *api.Weights) { *matricesOf(x)[i] = api.Mat{} })
		if m.Rows != m.Cols {
			turn(fmt.Sprint("rows for columns in matrix ", i), func(x *api.Weights) { y := matricesOf(x)[i]; y.Rows, y.Cols = y.Cols, y.Rows })
		}
	}
	for i, l := range listsOf(w.Shape, &w) {
		if l.gains {
			turn(fmt.Sprint("a gain less in list ", i), func(x *api.Weights) { y := listsOf(w.Shape, x)[i].numbers; *y = (*y)[1:] })
			turn(fmt.Sprint("a gain more in list ", i), func(x *api.Weights) { y := listsOf(w.Shape, x)[i].numbers; *y = append(*y, 0) })
			turn(fmt.Sprint("no gains in list ", i), func(x *api.Weights) { *listsOf(w.Shape, x)[i].numbers = nil })
		}
	}
	turn("a block less", func(x *api.Weights) { x.Blocks = x.Blocks[1:] })
	turn("a block more", func(x *api.Weights) { x.Blocks = append(x.Blocks, x.Blocks[0]) })
	turn("no blocks", func(x *api.Weights) { x.Blocks = nil })
	turn("a block of nothing", func(x *api.Weights) { x.Blocks[len(x.Blocks)-1] = api.Block{} })
	turn("no shape", func(x *api.Weights) { x.Shape = api.Shape{} })
	for at := range 6 {
		n := *numbersOf(&w.Shape)[at]
		for _, other := range []int{0, -n, 1000, n + 1<<32, math.MinInt, math.MaxInt} {
			turn(fmt.Sprint("number ", at, " of the shape is ", other), func(x *api.Weights) { x.Shape = turned(x.Shape, at, other) })
		}
	}
	// A shape that is right, but isn't that of the rest.
	turn("a layer more in the shape", func(x *api.Weights) { x.Shape.Layers++ })
	turn("a wider shape", func(x *api.Weights) { x.Shape.Width *= 2 })
	turn("a greater inner width", func(x *api.Weights) { x.Shape.Inner++ })
	turn("a token more", func(x *api.Weights) { x.Shape.Vocab++ })
	turn("heads that don't divide", func(x *api.Weights) { x.Shape.Heads = 15 })
	return all
}

func TestP71WholeOfRightOnes(t *testing.T) {
	if !Whole() {
		t.Error("Whole(): false")
	}
	var all []api.Weights
	for _, s := range append(rightShapes(), greatest()) {
		w := made(s, any8(3))
		all = append(all, w)
		if !Whole(w) {
			t.Errorf("Whole of %v: false", s)
		}
	}
	if !Whole(all...) || !Whole(all[0], all[0]) {
		t.Error("Whole of many: false")
	}
	// Neither places nor heads are to be seen in the rest.
	w := made(uneven(), any8(4))
	w.Shape.Places, w.Shape.Heads = 1, 6
	if !Whole(w) {
		t.Errorf("Whole of %v: false", w.Shape)
	}
}

func TestP71WholeOfWrongOnes(t *testing.T) {
	if Whole(api.Weights{}) {
		t.Error("Whole of nothing: true")
	}
	right := made(example(), any8(5))
	for _, s := range []api.Shape{uneven(), least(), example(), of(2, 8, 1, 8, 8, 8)} {
		for what, w := range wrongWeights(made(s, any8(6))) {
			if Whole(w) || Whole(w, right) || Whole(right, w) || Whole(right, w, right) {
				t.Errorf("Whole of %v: true: %s", s, what)
			}
		}
	}
}

func TestP72GrowOfExamples(t *testing.T) {
	// Of seed 0 the first x is 1442695040888963407, its top byte 20; the second is 1876011003808476466, its top byte 26.
	w := good[api.Weights](t)(Grow(least(), 0))
	if w.Shape != least() || len(w.Embed.V) != 2 || w.Embed.V[0] != 20-128 || w.Embed.V[1] != 26-128 {
		t.Errorf("Grow of seed 0: %v", w)
	}
	// Of the greatest seed the first x is 1442695040888963407 less 6364136223846793005, and 2^64: its top byte 187.
	w = good[api.Weights](t)(Grow(least(), math.MaxUint64))
	if w.Embed.V[0] != 187-128 {
		t.Errorf("Grow of the greatest seed: %v", w)
	}
}

func TestP72GrowIsReckonedAsTheChapterSays(t *testing.T) {
	next := steady(7)
	for _, s := range rightShapes() {
		for _, seed := range []uint64{0, 1, 2, 255, 1 << 56, 1 << 63, 1<<63 - 1, math.MaxUint64 - 1, math.MaxUint64, next(), next()} {
			got, e := Grow(s, seed)
			if e != api.OK || !same(got, made(s, grownWhole(seed))) || !Whole(got) {
				t.Errorf("Grow(%v, %d): error %d, or others", s, seed, e)
			}
		}
	}
	for _, seed := range []uint64{0, math.MaxUint64} {
		got, e := Grow(greatest(), seed)
		if e != api.OK || !same(got, made(greatest(), grownWhole(seed))) {
			t.Errorf("Grow(%v, %d): error %d, or others", greatest(), seed, e)
		}
	}
}

func TestP72NumbersAndGainsThatGrow(t *testing.T) {
	var numbers, gains [256]int
	for seed := range uint64(20) {
		w := good[api.Weights](t)(Grow(of(4, 32, 4, 8, 8, 8), seed))
		for _, l := range listsOf(w.Shape, &w) {
			for _, n := range *l.numbers {
				if l.gains {
					gains[int(n)+128]++
				} else {
					numbers[int(n)+128]++
				}
			}
		}
	}
	for i, n := range numbers {
		if n == 0 {
			t.Errorf("no number is %d", i-128)
		}
		if gain := i - 128; gains[i] > 0 != (gain >= 8 && gain <= 23) {
			t.Errorf("%d gains are %d", gains[i], gain)
		}
	}
	// From -15 to 15 all come to no more than one: twice as many as of any other gain but the least, which -128 alone has.
	if gains[128+16] < gains[128+15]*3/2 || gains[128+16] < gains[128+17]*3/2 || gains[128+8] == 0 || gains[128+8] > gains[128+9]/4 {
		t.Errorf("gains: %v", gains[128+8:128+24])
	}
}

func TestP72GrowOfWrongShapes(t *testing.T) {
	for _, s := range wrongShapes() {
		for _, seed := range []uint64{0, 1, math.MaxUint64} {
			if w, e := Grow(s, seed); e != api.ErrShape || !nothing(w) {
				t.Errorf("Grow(%v): error %d, or weights", s, e)
			}
		}
	}
}

func TestP73BytesOfAnExample(t *testing.T) {
	w := made(least(), func(bool) int8 { return 0 })
	for i, l := range listsOf(w.Shape, &w) {
		for k := range *l.numbers {
			(*l.numbers)[k] = int8(10*i + k - 50)
		}
	}
	wanted := append([]byte("PELOTON1"), 0, 1, 0, 2, 0, 1, 0, 1, 0, 1, 0, 1,
		206, 207, // Embed
		216, 217, // First
		226, 227, 228, 229, 236, 237, 238, 239, 246, 247, 248, 249, 0, 1, 2, 3, // Q, K, V, O
		10, 11, // Second
		20, 21, 30, 31, // Up, Down
		40, 41, // Last
		50, 51) // Head
	if got := good[[]byte](t)(Bytes(w)); !bytes.Equal(got[:len(got)-4], wanted) || !bytes.Equal(got, signed(wanted)) {
		t.Errorf("Bytes: %d, not %d", got, signed(wanted))
	}
	holdParse(t, "the example", signed(wanted), w)
}

func TestP73BytesOfAShape(t *testing.T) {
	for s, wanted := range map[api.Shape]string{
		example():                     "PELOTON1\x00\x01\x00\x04\x00\x02\x00\x03\x00\x05\x00\x08",
		uneven():                      "PELOTON1\x00\x03\x00\x0c\x00\x02\x00\x07\x00\x0b\x00\xfa",
		of(16, 32, 16, 256, 512, 256): "PELOTON1\x00\x10\x00\x20\x00\x10\x01\x00\x02\x00\x01\x00",
		of(1, 128, 1, 255, 257, 255):  "PELOTON1\x00\x01\x00\x80\x00\x01\x00\xff\x01\x01\x00\xff",
	} {
		got := good[[]byte](t)(Bytes(good[api.Weights](t)(Grow(s, 1))))
		if len(got) != 24+Count(s) || string(got[:20]) != wanted {
			t.Errorf("Bytes of %v: %d bytes, %q", s, len(got), got[:20])
		}
	}
}

func TestP73BytesAreTheFile(t *testing.T) {
	for i, s := range append(rightShapes(), greatest()) {
		for _, w := range []api.Weights{made(s, any8(uint64(i))), good[api.Weights](t)(Grow(s, uint64(i)))} {
			got, e := Bytes(w)
			if e != api.OK || !bytes.Equal(got, fileOf(w)) {
				t.Errorf("Bytes of %v: %d bytes, error %d, or others", s, len(got), e)
			}
		}
	}
}

func TestP73BytesOfWrongWeights(t *testing.T) {
	for _, s := range []api.Shape{uneven(), least(), of(2, 8, 1, 8, 8, 8)} {
		for what, w := range wrongWeights(made(s, any8(8))) {
			if b, e := Bytes(w); e != api.ErrShape || len(b) != 0 {
				t.Errorf("Bytes of %v: %d bytes and error %d: %s", s, len(b), e, what)
			}
		}
	}
	if b, e := Bytes(api.Weights{}); e != api.ErrShape || len(b) != 0 {
		t.Errorf("Bytes of nothing: %d bytes and error %d", len(b), e)
	}
}

func TestP73ParseOfBytesAndBytesOfParse(t *testing.T) {
	for i, s := range append(rightShapes(), greatest()) {
		for _, w := range []api.Weights{made(s, any8(uint64(i)+9)), made(s, func(bool) int8 { return -128 }), good[api.Weights](t)(Grow(s, uint64(i)))} {
			holdParse(t, "Parse of Bytes", good[[]byte](t)(Bytes(w)), w)
			file := fileOf(w)
			back := good[api.Weights](t)(Parse(file))
			if b, e := Bytes(back); e != api.OK || !bytes.Equal(b, file) || !Whole(back) {
				t.Errorf("Bytes of Parse of %v: %d bytes, error %d, or others", s, len(b), e)
			}
		}
	}
}

func TestP73ParseOfShortBytes(t *testing.T) {
	file := fileOf(made(example(), any8(10)))
	refuseParse(t, "nil", nil, api.ErrShort)
	refuseParse(t, "empty", []byte{}, api.ErrShort)
	for n := range file {
		refuseParse(t, "the beginning", file[:n], api.ErrShort)
		refuseParse(t, "the beginning, signed", signed(file[:max(0, n-4)]), api.ErrShort)
	}
	// Below 24 bytes nothing else counts, from there on all that comes first does.
	for n := range 24 {
		refuseParse(t, "noughts", make([]byte, n), api.ErrShort)
	}
	refuseParse(t, "24 noughts", make([]byte, 24), api.ErrMagic)
	letters := append([]byte("PELOTON1"), make([]byte, 16)...)
	refuseParse(t, "letters and 15 bytes", letters[:23], api.ErrShort)
	refuseParse(t, "letters and 16 bytes", letters, api.ErrShape)
	refuseParse(t, "24 bytes of a file", file[:24], api.ErrShort)
}

func TestP73ParseOfOtherLetters(t *testing.T) {
	file := fileOf(made(example(), any8(11)))
	for at := range 8 {
		for bit := range 8 {
			b := slices.Clone(file[:len(file)-4])
			b[at] ^= 1 << bit
			refuseParse(t, "a letter", signed(b), api.ErrMagic)
			refuseParse(t, "a letter of few bytes", b[:24], api.ErrMagic)
		}
	}
	refuseParse(t, "small letters", signed(append([]byte("peloton1"), file[8:len(file)-4]...)), api.ErrMagic)
	refuseParse(t, "the next letter", signed(append([]byte("PELOTON2"), file[8:len(file)-4]...)), api.ErrMagic)
	refuseParse(t, "letters one byte on", append([]byte{0}, file...), api.ErrMagic)
	refuseParse(t, "letters one byte ahead", file[1:], api.ErrMagic)
}

// withNumber is a file whose shape has another number; its sum is right.
func withNumber(file []byte, at, n int) []byte {
	b := slices.Clone(file[:len(file)-4])
	binary.BigEndian.PutUint16(b[8+2*at:], uint16(n))
	return signed(b)
}

func TestP73ParseOfOtherShapes(t *testing.T) {
	for _, s := range []api.Shape{example(), least(), uneven()} {
		w := made(s, any8(12))
		file := fileOf(w)
		for at := range 6 {
			for n := range 65536 {
				if n > 1000 && n%251 != 0 && n < 65530 {
					continue
				}
				x, b := turned(s, at, n), withNumber(file, at, n)
				switch {
				case !chapterRight(x):
					refuseParse(t, "a wrong shape", b, api.ErrShape)
				case Count(x) > Count(s):
					refuseParse(t, "a greater shape", b, api.ErrShort)
				case Count(x) < Count(s):
					refuseParse(t, "a smaller shape", b, api.ErrExtra)
				default:
					y := w
					y.Shape = x
					holdParse(t, "another shape", b, y)
				}
			}
		}
	}
	file := fileOf(made(example(), any8(13)))
	refuseParse(t, "Heads 3 and Width 4", withNumber(file, 2, 3), api.ErrShape)
}

func TestP73ParseOfFewerAndMoreBytes(t *testing.T) {
	for _, s := range append(rightShapes(), greatest()) {
		file := fileOf(made(s, any8(14)))
		refuseParse(t, "a byte less", file[:len(file)-1], api.ErrShort)
		refuseParse(t, "a byte less, signed", signed(file[:len(file)-5]), api.ErrShort)
		refuseParse(t, "a byte more", append(slices.Clone(file), 0), api.ErrExtra)
		refuseParse(t, "a byte more, signed", signed(append(slices.Clone(file[:len(file)-4]), 7)), api.ErrExtra)
		refuseParse(t, "signed twice", signed(file), api.ErrExtra)
		refuseParse(t, "twice", append(slices.Clone(file), file...), api.ErrExtra)
	}
}

func TestP73ParseOfASpoiltByte(t *testing.T) {
	for _, s := range []api.Shape{example(), least()} {
		file := fileOf(made(s, any8(15)))
		for at := 20; at < len(file); at++ {
			for x := 1; x < 256; x++ {
				b := slices.Clone(file)
				b[at] ^= byte(x)
				refuseParse(t, "a byte", b, api.ErrSum)
			}
		}
		// Places are in no count.
		b := slices.Clone(file)
		b[19]++
		refuseParse(t, "the places", b, api.ErrSum)
	}
	file := fileOf(made(example(), any8(16)))
	end := len(file) - 4
	slices.Reverse(file[end:])
	refuseParse(t, "the sum turned about", file, api.ErrSum)
	refuseParse(t, "no sum", append(slices.Clone(file[:end]), 0, 0, 0, 0), api.ErrSum)
}

func TestP73ParseOfSeveralFaults(t *testing.T) {
	file := fileOf(made(example(), any8(17)))
	spoilt := func(b []byte, at ...int) []byte {
		b = slices.Clone(b)
		for _, i := range at {
			b[i] ^= 0x80
		}
		return b
	}
	longer := append(slices.Clone(file), 1, 2, 3)
	for _, c := range []struct {
		what string
		b    []byte
		want api.Errno
	}{
		{"short, letters, shape", spoilt(file, 0, 8)[:23], api.ErrShort},
		{"letters, shape, few bytes", spoilt(file, 7, 8)[:24], api.ErrMagic},
		{"letters, shape, many bytes", spoilt(longer, 3, 12, 30), api.ErrMagic},
		{"letters, few bytes", spoilt(file, 5)[:100], api.ErrMagic},
		{"letters, sum", spoilt(file, 1, len(file)-1), api.ErrMagic},
		{"letters, shape, sum", spoilt(file, 1, 10, len(file)-1), api.ErrMagic},
		{"shape, few bytes", spoilt(file, 18)[:24], api.ErrShape},
		{"shape, fewer bytes", spoilt(file, 8)[:163], api.ErrShape},
		{"shape, many bytes", spoilt(longer, 10), api.ErrShape},
		{"shape, sum", spoilt(file, 16, 163), api.ErrShape},
		{"few bytes, sum", spoilt(file, 40)[:163], api.ErrShort},
		{"many bytes, sum", spoilt(longer, 40), api.ErrExtra},
	} {
		refuseParse(t, c.what, c.b, c.want)
	}
}

// fence gives each list of weights spare room, and answers all of it.
func fence(w *api.Weights) [][]int8 {
	var all [][]int8
	w.Blocks = append(make([]api.Block, 0, len(w.Blocks)+1), w.Blocks...)
	for _, l := range listsOf(w.Shape, w) {
		n := len(*l.numbers)
		whole := append(slices.Clone(*l.numbers), 11, 22, 33, 44, 55)
		*l.numbers = whole[:n]
		all = append(all, whole)
	}
	return all
}

// spoil changes all lists of weights, with their spare room, and what else they have.
func spoil(w *api.Weights) {
	for _, l := range listsOf(w.Shape, w) {
		whole := (*l.numbers)[:cap(*l.numbers)]
		for i := range whole {
			whole[i] += 3
		}
	}
	for _, m := range matricesOf(w) {
		m.Rows, m.Cols = 7, 7
	}
	for i := range w.Blocks[:cap(w.Blocks)] {
		w.Blocks[:cap(w.Blocks)][i] = api.Block{}
	}
	w.Shape = api.Shape{}
}

func TestP73GrownWeightsAreNewMemory(t *testing.T) {
	for _, s := range rightShapes() {
		first, second := good[api.Weights](t)(Grow(s, 5)), good[api.Weights](t)(Grow(s, 5))
		wanted := made(s, grownWhole(5))
		spoil(&second)
		if !same(first, wanted) {
			t.Errorf("Grow(%v): a change of an answer changed another", s)
		}
		if next := good[api.Weights](t)(Grow(s, 5)); !same(next, wanted) {
			t.Errorf("Grow(%v): a change of an answer changed the next one", s)
		}
	}
}

func TestP73ParsedWeightsAreNewMemory(t *testing.T) {
	for _, s := range rightShapes() {
		wanted := made(s, any8(18))
		file := fileOf(wanted)
		room := append(slices.Clone(file), 1, 2, 3, 4, 5)
		kept, b := slices.Clone(room), room[:len(file)]
		first, second := good[api.Weights](t)(Parse(b)), good[api.Weights](t)(Parse(b))
		spoil(&second)
		if !bytes.Equal(room, kept) || !same(first, wanted) {
			t.Errorf("Parse of %v: a change of an answer changed another, or what was handed in", s)
		}
		holdParse(t, "the next one", b, wanted)
		for i := range room {
			room[i] ^= 0x55
		}
		if !same(first, wanted) {
			t.Errorf("Parse of %v: a change of what was handed in changed an answer", s)
		}
	}
}

func TestP73BytesAreNewMemory(t *testing.T) {
	for _, s := range rightShapes() {
		w := made(s, any8(19))
		wanted, was := fileOf(w), copied(w)
		lists := fence(&w)
		var kept [][]int8
		for _, l := range lists {
			kept = append(kept, slices.Clone(l))
		}
		first, second := good[[]byte](t)(Bytes(w)), good[[]byte](t)(Bytes(w))
		for i := range second[:cap(second)] {
			second[:cap(second)][i] ^= 0x55
		}
		if !bytes.Equal(first, wanted) || !same(w, was) || !slices.EqualFunc(lists, kept, slices.Equal[[]int8]) {
			t.Errorf("Bytes of %v: a change of an answer changed another, or what was handed in", s)
		}
		if next := good[[]byte](t)(Bytes(w)); !bytes.Equal(next, wanted) {
			t.Errorf("Bytes of %v: a change of an answer changed the next one", s)
		}
		spoil(&w)
		if !bytes.Equal(first, wanted) {
			t.Errorf("Bytes of %v: a change of what was handed in changed an answer", s)
		}
	}
}

// Each list is changed alone, its spare room with it, and all others are held against what they were.
func TestP73TheListsOfOneAnswerShareNothing(t *testing.T) {
	for _, s := range []api.Shape{least(), example(), uneven()} {
		was := made(s, grownWhole(9))
		file := fileOf(was)
		for i := range listsOf(s, &was) {
			for _, w := range []api.Weights{good[api.Weights](t)(Grow(s, 9)), good[api.Weights](t)(Parse(file))} {
				wanted, numbers := copied(was), *listsOf(s, &w)[i].numbers
				for k := range numbers[:cap(numbers)] {
					numbers[:cap(numbers)][k]++
				}
				for k := range numbers {
					(*listsOf(s, &wanted)[i].numbers)[k]++
				}
				if !same(w, wanted) {
					t.Errorf("%v: a change of list %d changed another", s, i)
				}
			}
		}
	}
}

func TestP73WhatIsRefusedIsNotChanged(t *testing.T) {
	w := made(example(), any8(20))
	w.Last = w.Last[1:]
	was := copied(w)
	if _, e := Bytes(w); e != api.ErrShape || !same(w, was) {
		t.Errorf("Bytes: error %d, or what was handed in is another", e)
	}
	b := fileOf(made(example(), any8(21)))
	b[30]++
	kept := slices.Clone(b)
	refuseParse(t, "a sum", b, api.ErrSum)
	refuseParse(t, "a beginning", b[:100], api.ErrShort)
	if !bytes.Equal(b, kept) {
		t.Error("Parse: what was handed in is another")
	}
	pieces := [][]byte{b[:10], b[10:20], nil, b[30:]}
	Sum(pieces[:2]...)
	if !bytes.Equal(b, kept) || len(pieces[0]) != 10 || len(pieces[1]) != 10 || pieces[2] != nil || len(pieces[3]) != len(b)-30 {
		t.Error("Sum: what was handed in is another")
	}
}
