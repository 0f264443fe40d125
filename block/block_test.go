package block

import (
	"fmt"
	"math"
	"math/big"
	"slices"
	"testing"

	"peloton/api"
	"peloton/cache"
	"peloton/model"
	"peloton/norm"
	"peloton/part"
	"peloton/rope"
	"peloton/round"
	"peloton/slice"
	"peloton/weight"
)

// steady answers numbers by a fixed rule, so that a test is the same each time.
func steady(seed uint64) func() uint64 {
	return func() uint64 {
		seed = seed*6364136223846793005 + 1442695040888963407
		return (seed ^ seed>>29) >> 16
	}
}

// of is a shape of the given numbers.
func of(layers, width, heads, inner, vocab, places int) api.Shape {
	return api.Shape{Layers: layers, Width: width, Heads: heads, Inner: inner, Vocab: vocab, Places: places}
}

// cut is one of so many stages and parts.
func cut(stages, parts int) api.Cut { return api.Cut{Stages: stages, Parts: parts} }

// spot is a request's place in a layer.
func spot(request, layer, place int) api.Spot {
	return api.Spot{Request: request, Layer: layer, Place: place}
}

// middle has cuts whose stages are neither the first nor the last one, and not all of one size; greatest is the shape of most numbers.
func middle() api.Shape   { return of(5, 8, 4, 6, 3, 4) }
func greatest() api.Shape { return of(16, 128, 16, 256, 512, 256) }

// shapes are some that are right; the greatest isn't among them.
func shapes() []api.Shape {
	return []api.Shape{
		of(1, 2, 1, 1, 1, 1), of(1, 4, 2, 2, 3, 5), middle(), of(3, 8, 4, 6, 5, 4), of(2, 8, 4, 8, 7, 3), of(3, 24, 6, 12, 2, 9),
		of(7, 10, 5, 5, 6, 3), of(2, 32, 16, 16, 4, 5), of(2, 20, 2, 250, 9, 4), of(1, 128, 1, 3, 2, 3), of(2, 12, 3, 9, 512, 3),
	}
}

// rightCuts are all cuts of a shape that the chapter of layer 10 calls right.
func rightCuts(s api.Shape) []api.Cut {
	var cs []api.Cut
	for stages := 1; stages <= s.Layers; stages++ {
		for parts := 1; parts <= 64; parts++ {
			if s.Heads%parts == 0 && s.Inner%parts == 0 && stages*parts <= 64 {
				cs = append(cs, cut(stages, parts))
			}
		}
	}
	return cs
}

// far are numbers that no stage, part, layer or place is.
func far() []int {
	return []int{-1, -2, -64, -256, 256, 257, 4096, 1 << 32, 1<<32 + 1, -1 << 32, 1 << 62, math.MinInt, math.MinInt + 1, math.MaxInt - 1, math.MaxInt}
}

// blockLists points at a block's lists.
func blockLists(b *api.Block) []*[]int8 {
	return []*[]int8{&b.First, &b.Q.V, &b.K.V, &b.V.V, &b.O.V, &b.Second, &b.Up.V, &b.Down.V}
}

// blockMatrices points at a block's matrices.
func blockMatrices(b *api.Block) []*api.Mat {
	return []*api.Mat{&b.Q, &b.K, &b.V, &b.O, &b.Up, &b.Down}
}

// lists points at a shard's lists.
func lists(s *api.Shard) []*[]int8 {
	all := []*[]int8{&s.Embed.V, &s.Last, &s.Head.V}
	for i := range s.Blocks {
		all = append(all, blockLists(&s.Blocks[i])...)
	}
	return all
}

// matrices points at a shard's matrices.
func matrices(s *api.Shard) []*api.Mat {
	all := []*api.Mat{&s.Embed, &s.Head}
	for i := range s.Blocks {
		all = append(all, blockMatrices(&s.Blocks[i])...)
	}
	return all
}

// copyOf is a new shard of the same numbers.
func copyOf(s api.Shard) api.Shard {
	s.Blocks = slices.Clone(s.Blocks)
	for _, l := range lists(&s) {
		*l = slices.Clone(*l)
	}
	return s
}

// sameShard: have shards the same numbers, sides, shape, cut and place in it?
func sameShard(a, b api.Shard) bool {
	return a.Shape == b.Shape && a.Cut == b.Cut && a.Stage == b.Stage && a.Part == b.Part && len(a.Blocks) == len(b.Blocks) &&
		slices.EqualFunc(lists(&a), lists(&b), func(x, y *[]int8) bool { return slices.Equal(*x, *y) }) &&
		slices.EqualFunc(matrices(&a), matrices(&b), func(x, y *api.Mat) bool { return x.Rows == y.Rows && x.Cols == y.Cols })
}

// filled are weights of a shape, each number of which next answers.
func filled(t *testing.T, s api.Shape, next func() int8) api.Weights {
	t.Helper()
	w := grown(t, s, 1)
	// Weights have the lists of a shard of one stage and one part.
	all := api.Shard{Embed: w.Embed, Blocks: w.Blocks, Last: w.Last, Head: w.Head}
	for _, l := range lists(&all) {
		for i := range *l {
			(*l)[i] = next()
		}
	}
	return w
}

// grown are weights of a shape and a seed.
func grown(t *testing.T, s api.Shape, seed uint64) api.Weights {
	t.Helper()
	w, e := weight.Grow(s, seed)
	if e != api.OK {
		t.Fatalf("Grow of %v: error %d", s, e)
	}
	return w
}

// any8 are weights of a shape and of any numbers.
func any8(t *testing.T, s api.Shape, seed uint64) api.Weights {
	t.Helper()
	next := steady(seed)
	return filled(t, s, func() int8 { return int8(next()) })
}

// kinds are weights of a shape: grown ones, ones of any numbers, ones of the ends alone, and noughts.
func kinds(t *testing.T, s api.Shape) []api.Weights {
	t.Helper()
	next := steady(9)
	return []api.Weights{
		grown(t, s, 42), any8(t, s, 10),
		filled(t, s, func() int8 { return [2]int8{-128, 127}[next()%2] }),
		filled(t, s, func() int8 { return -128 }),
		filled(t, s, func() int8 { return 0 }),
	}
}

// allOf are all workers' shards of weights.
func allOf(t *testing.T, w api.Weights, c api.Cut) []api.Shard {
	t.Helper()
	all, e := part.All(w, c)
	if e != api.OK {
		t.Fatalf("All of %v, %v: error %d", w.Shape, c, e)
	}
	return all
}

// shardOf is one worker's.
func shardOf(t *testing.T, w api.Weights, c api.Cut, stage, at int) api.Shard {
	t.Helper()
	s, e := part.Take(w, c, stage, at)
	if e != api.OK {
		t.Fatalf("Take of %v, %v, %d, %d: error %d", w.Shape, c, stage, at, e)
	}
	return s
}

// store is an empty one.
func store(t *testing.T, room int) *cache.Store {
	t.Helper()
	c, e := cache.New(room)
	if e != api.OK {
		t.Fatalf("New(%d): error %d", room, e)
	}
	return c
}

// row is x of a width: of small numbers, of any of 32 bits, or of the ends alone, by turns.
func row(width int, next func() uint64) []int32 {
	x := make([]int32, width)
	kind := next() % 4
	for i := range x {
		switch n := next(); kind {
		case 0:
			x[i] = int32(n%4096) - 2048
		case 1:
			x[i] = int32(n)
		case 2:
			x[i] = [3]int32{math.MinInt32, math.MaxInt32, 0}[n%3]
		default:
			x[i] = int32(n%65) - 32
		}
	}
	return x
}

// rows are some of them.
func rows(n, width int, next func() uint64) [][]int32 {
	all := make([][]int32, n)
	for i := range all {
		all[i] = row(width, next)
	}
	return all
}

// must is what a call of a lower layer answers of arguments that are right.
func must[A any](x A, e api.Errno) A {
	if e != api.OK {
		panic(e)
	}
	return x
}

// among: is x, of n things in m parts, one of part i?
func among(n, m, i int) func(x int) bool {
	return func(x int) bool { return i*n/m <= x && x < (i+1)*n/m }
}

// each: all are.
func each(int) bool { return true }

// picked are those of a row that are in.
func picked(row []int8, in func(int) bool) []int8 {
	var out []int8
	for i, n := range row {
		if in(i) {
			out = append(out, n)
		}
	}
	return out
}

// times is the product of those columns of a matrix that are in with x's numbers there.
func times(m api.Mat, x []int8, in func(int) bool) []int32 {
	y := make([]int32, m.Rows)
	for r := range y {
		var sum int64
		for c := range m.Cols {
			if in(c) {
				sum += int64(m.V[r*m.Cols+c]) * int64(x[c])
			}
		}
		y[r] = int32(sum)
	}
	return y
}

// down is a product, each number by Quant (1, 7).
func down(ys []int32) []int8 {
	var out []int8
	for _, y := range ys {
		out = append(out, round.Quant(y, 1, 7))
	}
	return out
}

// headOf is head h of a row of the model's width.
func headOf(s api.Shape, h int, row []int8) []int8 {
	n := s.Width / s.Heads
	return row[h*n : h*n+n]
}

// headsTurned is a row of which each head is turned at a place.
func headsTurned(s api.Shape, place int, row []int8) []int8 {
	var out []int8
	for h := range s.Heads {
		out = append(out, must(rope.Turn(place, headOf(s, h, row)...))...)
	}
	return out
}

// attended is what the words say of Attend: a part of y, and the whole model's keys and values at each place.
type attended struct {
	y      []int32
	ks, vs [][]int8
}

// attends goes through the words, of the whole model's weights, for the heads of a part: one x a place, in a layer.
func attends(w api.Weights, parts, at, layer int, xs ...[]int32) attended {
	s, b := w.Shape, w.Blocks[layer]
	inHeads := among(s.Heads, parts, at)
	var out attended
	var q []int8
	for place, x := range xs {
		a := must(norm.Norm(b.First, x))
		q = headsTurned(s, place, down(times(b.Q, a, each)))
		out.ks = append(out.ks, headsTurned(s, place, down(times(b.K, a, each))))
		out.vs = append(out.vs, down(times(b.V, a, each)))
	}
	answers := make([]int8, s.Width)
	for h := range s.Heads {
		var scores []int32
		var values [][]int8
		for place := range xs {
			scores = append(scores, round.Dot(headOf(s, h, q), headOf(s, h, out.ks[place])))
			values = append(values, headOf(s, h, out.vs[place]))
		}
		copy(headOf(s, h, answers), must(norm.Mix(norm.Softmax(64, 0, scores...), values...)))
	}
	out.y = times(b.O, answers, func(i int) bool { return inHeads(i / (s.Width / s.Heads)) })
	return out
}

// widens is what the words say of Widen, of the whole model's weights, for the inner numbers of a part.
func widens(w api.Weights, parts, at, layer int, x []int32) []int32 {
	b := w.Blocks[layer]
	u := norm.Gate(down(times(b.Up, must(norm.Norm(b.Second, x)), each))...)
	return times(b.Down, u, among(w.Shape.Inner, parts, at))
}

// joins is what the words say of Join, in numbers of any size.
func joins(x []int32, ys ...[]int32) []int32 {
	out := make([]int32, len(x))
	for i := range x {
		sum := big.NewInt(0)
		for _, y := range ys {
			sum.Add(sum, big.NewInt(int64(y[i])))
		}
		// The sum, wrapped; by 16, to the nearest one, of two the even one.
		twice := big.NewRat(int64(wrapped(sum)), 16)
		n := new(big.Int).Div(new(big.Int).Add(twice.Num(), new(big.Int).Div(twice.Denom(), big.NewInt(2))), twice.Denom())
		if twice.Denom().Int64() == 2 && n.Bit(0) == 1 {
			n.Sub(n, big.NewInt(1))
		}
		out[i] = wrapped(n.Add(n, big.NewInt(int64(x[i]))))
	}
	return out
}

// wrapped is a number's rest by 2^32, from -2^31 to 2^31 - 1.
func wrapped(n *big.Int) int32 {
	half := big.NewInt(1 << 31)
	n = new(big.Int).Add(n, half)
	n.Mod(n, big.NewInt(1<<32))
	return int32(n.Sub(n, half).Int64())
}

// kept is all that a store tells.
func kept(c *cache.Store) string {
	out := fmt.Sprint(c.Len(), c.Room(), c.Requests())
	for _, request := range c.Requests() {
		for layer := range api.MaxLayers {
			ks, vs := c.Line(request, layer)
			out += fmt.Sprint(" ", request, layer, ks, vs)
		}
	}
	return out
}

// stageLayers are the layers that the words of layer 10 say a stage has: from which one on, and the one behind the last.
func stageLayers(s api.Shard) (int, int) {
	return s.Stage * s.Shape.Layers / s.Cut.Stages, (s.Stage + 1) * s.Shape.Layers / s.Cut.Stages
}

// holdEnter asks for a token's row.
func holdEnter(t *testing.T, s api.Shard, token int, want []int32) []int32 {
	t.Helper()
	x, e := Enter(s, token)
	if e != api.OK || !slices.Equal(x, want) {
		t.Fatalf("Enter of %v, %v, stage %d, part %d, token %d: %v, error %d, want %v", s.Shape, s.Cut, s.Stage, s.Part, token, x, e, want)
	}
	return x
}

// refuseEnter asks for a token's row that isn't to be had.
func refuseEnter(t *testing.T, what string, s api.Shard, token int, want api.Errno) {
	t.Helper()
	if x, e := Enter(s, token); e != want || len(x) != 0 {
		t.Errorf("%s: Enter of %v, %v, stage %d, part %d, token %d: %v, error %d, want %d", what, s.Shape, s.Cut, s.Stage, s.Part, token, x, e, want)
	}
}

// holdAttend asks for a part of y.
func holdAttend(t *testing.T, s api.Shard, c *cache.Store, at api.Spot, x, want []int32) []int32 {
	t.Helper()
	y, e := Attend(s, c, at, x)
	if e != api.OK || !slices.Equal(y, want) {
		t.Fatalf("Attend of %v, %v, stage %d, part %d, at %v: %v, error %d, want %v", s.Shape, s.Cut, s.Stage, s.Part, at, y, e, want)
	}
	return y
}

// attend is a part of y that is to be had, whatever it is.
func attend(t *testing.T, s api.Shard, c *cache.Store, at api.Spot, x []int32) []int32 {
	t.Helper()
	y, e := Attend(s, c, at, x)
	if e != api.OK {
		t.Fatalf("Attend of %v, %v, stage %d, part %d, at %v: error %d", s.Shape, s.Cut, s.Stage, s.Part, at, e)
	}
	return y
}

// refuseAttend asks for a part of y that isn't to be had; the store stays as it was.
func refuseAttend(t *testing.T, what string, s api.Shard, c *cache.Store, at api.Spot, x []int32, want api.Errno) {
	t.Helper()
	before := ""
	if c != nil {
		before = kept(c)
	}
	if y, e := Attend(s, c, at, x); e != want || len(y) != 0 {
		t.Errorf("%s: Attend of %v, %v, stage %d, part %d, at %v, x of %d: %v, error %d, want %d", what, s.Shape, s.Cut, s.Stage, s.Part, at, len(x), y, e, want)
	}
	if c != nil && kept(c) != before {
		t.Errorf("%s: Attend of %v, %v, at %v, refused, changed the store", what, s.Shape, s.Cut, at)
	}
}

// holdWiden asks for a part of z.
func holdWiden(t *testing.T, s api.Shard, layer int, x, want []int32) []int32 {
	t.Helper()
	z, e := Widen(s, layer, x)
	if e != api.OK || !slices.Equal(z, want) {
		t.Fatalf("Widen of %v, %v, stage %d, part %d, layer %d: %v, error %d, want %v", s.Shape, s.Cut, s.Stage, s.Part, layer, z, e, want)
	}
	return z
}

// refuseWiden asks for a part of z that isn't to be had.
func refuseWiden(t *testing.T, what string, s api.Shard, layer int, x []int32, want api.Errno) {
	t.Helper()
	if z, e := Widen(s, layer, x); e != want || len(z) != 0 {
		t.Errorf("%s: Widen of %v, %v, stage %d, part %d, layer %d, x of %d: %v, error %d, want %d", what, s.Shape, s.Cut, s.Stage, s.Part, layer, len(x), z, e, want)
	}
}

// holdJoin asks for a join.
func holdJoin(t *testing.T, want, x []int32, ys ...[]int32) []int32 {
	t.Helper()
	z, e := Join(x, ys...)
	if e != api.OK || !slices.Equal(z, want) {
		t.Fatalf("Join of %v and %v: %v, error %d, want %v", x, ys, z, e, want)
	}
	return z
}

// refuseJoin asks for a join that isn't to be had.
func refuseJoin(t *testing.T, what string, x []int32, ys ...[]int32) {
	t.Helper()
	if z, e := Join(x, ys...); e != api.ErrShape || len(z) != 0 {
		t.Errorf("%s: Join: %v, error %d, want %d", what, z, e, api.ErrShape)
	}
}

// holdLeave asks for weights.
func holdLeave(t *testing.T, s api.Shard, x, want []int32) []int32 {
	t.Helper()
	y, e := Leave(s, x)
	if e != api.OK || !slices.Equal(y, want) {
		t.Fatalf("Leave of %v, %v, stage %d, part %d: %v, error %d, want %v", s.Shape, s.Cut, s.Stage, s.Part, y, e, want)
	}
	return y
}

// refuseLeave asks for weights that aren't to be had.
func refuseLeave(t *testing.T, what string, s api.Shard, x []int32, want api.Errno) {
	t.Helper()
	if y, e := Leave(s, x); e != want || len(y) != 0 {
		t.Errorf("%s: Leave of %v, %v, stage %d, part %d, x of %d: %v, error %d, want %d", what, s.Shape, s.Cut, s.Stage, s.Part, len(x), y, e, want)
	}
}

// holdRows asks whose part of a row keys are.
func holdRows(t *testing.T, what string, s api.Shard, k []int8, want [2]int, wanted bool) {
	t.Helper()
	if at, ok := Rows(s, k); at != want || ok != wanted {
		t.Errorf("%s: Rows of %v, %v, stage %d, part %d, keys of %d: %v, %v, want %v, %v", what, s.Shape, s.Cut, s.Stage, s.Part, len(k), at, ok, want, wanted)
	}
}

// eachCut goes through the shapes and all their right cuts.
func eachCut(f func(s api.Shape, c api.Cut)) {
	for _, s := range shapes() {
		for _, c := range rightCuts(s) {
			f(s, c)
		}
	}
}

// entered is a token's row, as the words say it.
func entered(w api.Weights, token int) []int32 {
	x := make([]int32, w.Shape.Width)
	for i := range x {
		x[i] = 16 * int32(w.Embed.V[token*w.Shape.Width+i])
	}
	return x
}

// left are the weights of the next token, as the words say them.
func left(w api.Weights, x []int32) []int32 {
	return times(w.Head, must(norm.Norm(w.Last, x)), each)
}

func TestP131EnterIsATokensRow(t *testing.T) {
	eachCut(func(s api.Shape, c api.Cut) {
		w := any8(t, s, 1)
		for at := range c.Parts {
			shard := shardOf(t, w, c, 0, at)
			for token := range min(s.Vocab, 20) {
				holdEnter(t, shard, token, entered(w, token))
			}
			holdEnter(t, shard, s.Vocab-1, entered(w, s.Vocab-1))
		}
	})
}

func TestP131EnterOfKnownNumbers(t *testing.T) {
	w := filled(t, of(1, 4, 2, 2, 3, 5), func() int8 { return 0 })
	copy(w.Embed.V, []int8{0, 1, -1, 2, -128, 127, 126, -127, 64, 32, 16, 8})
	for at := range 2 {
		shard := shardOf(t, w, cut(1, 2), 0, at)
		holdEnter(t, shard, 0, []int32{0, 16, -16, 32})
		holdEnter(t, shard, 1, []int32{-2048, 2032, 2016, -2032})
		holdEnter(t, shard, 2, []int32{1024, 512, 256, 128})
	}
}

func TestP131EnterOfOtherStages(t *testing.T) {
	eachCut(func(s api.Shape, c api.Cut) {
		for _, shard := range allOf(t, grown(t, s, 2), c) {
			if shard.Stage == 0 {
				continue
			}
			for _, token := range append(far(), 0, s.Vocab-1, s.Vocab) {
				refuseEnter(t, "not the first stage", shard, token, api.ErrNone)
			}
		}
	})
}

func TestP131EnterOfNoToken(t *testing.T) {
	eachCut(func(s api.Shape, c api.Cut) {
		for at := range c.Parts {
			shard := shardOf(t, grown(t, s, 3), c, 0, at)
			for _, token := range append(far(), s.Vocab, s.Vocab+1, 2*s.Vocab) {
				if token < 0 || token >= s.Vocab {
					refuseEnter(t, "no such token", shard, token, api.ErrArg)
				}
			}
		}
	})
}

func TestP131LeaveIsHeadsProduct(t *testing.T) {
	next := steady(4)
	eachCut(func(s api.Shape, c api.Cut) {
		for _, w := range kinds(t, s)[:3] {
			for at := range c.Parts {
				shard := shardOf(t, w, c, c.Stages-1, at)
				for range 4 {
					x := row(s.Width, next)
					holdLeave(t, shard, x, left(w, x))
				}
			}
		}
	})
}

func TestP131LeaveOfKnownNumbers(t *testing.T) {
	w := filled(t, of(1, 2, 1, 1, 3, 5), func() int8 { return 0 })
	w.Last = []int8{16, 16}
	copy(w.Head.V, []int8{1, 0, 0, 1, 3, -2})
	shard := shardOf(t, w, cut(1, 1), 0, 0)
	// The example of layer 5: of 300 and -300, by 16, come 32 and -32.
	holdLeave(t, shard, []int32{300, -300}, []int32{32, -32, 160})
	holdLeave(t, shard, []int32{0, 0}, []int32{0, 0, 0})
}

func TestP131LeaveOfOtherStages(t *testing.T) {
	next := steady(5)
	eachCut(func(s api.Shape, c api.Cut) {
		for _, shard := range allOf(t, grown(t, s, 4), c) {
			if shard.Stage != c.Stages-1 {
				refuseLeave(t, "not the last stage", shard, row(s.Width, next), api.ErrNone)
			}
		}
	})
}

// wrongSides are matrices of other sides than m has, or that aren't right.
func wrongSides(m api.Mat) []api.Mat {
	var all []api.Mat
	for _, off := range [][2]int{{-1, 0}, {1, 0}, {0, -1}, {0, 1}, {1, 1}, {1 << 32, 1 << 32}, {math.MaxInt, math.MaxInt}, {-2*m.Rows - 1, -2*m.Cols - 1}} {
		n := api.Mat{Rows: m.Rows + off[0], Cols: m.Cols + off[1], V: slices.Clone(m.V)}
		all = append(all, n)
		if min(n.Rows, n.Cols) >= 0 && max(n.Rows, n.Cols) <= 4096 {
			n.V = make([]int8, n.Rows*n.Cols)
			all = append(all, n)
		}
	}
	more := m
	more.V = append(slices.Clone(m.V), 0)
	all = append(all, more)
	if len(m.V) > 0 {
		less, none := m, m
		less.V, none.V = m.V[1:], nil
		all = append(all, less, none, api.Mat{})
	}
	return all
}

// wrongShards are shards in which just one thing isn't right, out of one that is, by what it is.
func wrongShards(t *testing.T, s api.Shard) map[string]api.Shard {
	t.Helper()
	all := map[string]api.Shard{"nothing": {}}
	turn := func(what string, change func(x *api.Shard)) {
		x := copyOf(s)
		change(&x)
		if part.Right(x) {
			t.Fatalf("%s of %v, %v, stage %d: the shard is right", what, s.Shape, s.Cut, s.Stage)
		}
		all[what] = x
	}
	for i, m := range matrices(&s) {
		for k, n := range wrongSides(*m) {
			turn(fmt.Sprint("matrix ", i, ", ", k), func(x *api.Shard) { *matrices(x)[i] = n })
		}
	}
	for i, l := range lists(&s) {
		turn(fmt.Sprint("a number more in list ", i), func(x *api.Shard) { *lists(x)[i] = append(*lists(x)[i], 0) })
		if len(*l) > 0 {
			turn(fmt.Sprint("a number less in list ", i), func(x *api.Shard) { *lists(x)[i] = (*l)[1:] })
			turn(fmt.Sprint("no numbers in list ", i), func(x *api.Shard) { *lists(x)[i] = nil })
		}
	}
	turn("a block less", func(x *api.Shard) { x.Blocks = x.Blocks[1:] })
	turn("a block more", func(x *api.Shard) { x.Blocks = append(x.Blocks, x.Blocks[0]) })
	turn("no blocks", func(x *api.Shard) { x.Blocks = nil })
	turn("a block of nothing", func(x *api.Shard) { x.Blocks[len(x.Blocks)-1] = api.Block{} })
	for at := range 6 {
		for _, n := range []int{0, -1, 1000, 1 << 32, math.MinInt, math.MaxInt} {
			turn(fmt.Sprint("number ", at, " of the shape is ", n), func(x *api.Shard) {
				h := &x.Shape
				*[]*int{&h.Layers, &h.Width, &h.Heads, &h.Inner, &h.Vocab, &h.Places}[at] = n
			})
		}
	}
	turn("an odd head width", func(x *api.Shard) { x.Shape.Heads = x.Shape.Width })
	for _, n := range append(far(), 0, s.Shape.Layers+1) {
		turn(fmt.Sprint(n, " stages"), func(x *api.Shard) { x.Cut.Stages = n })
	}
	for _, n := range append(far(), 0, s.Shape.Heads+1) {
		turn(fmt.Sprint(n, " parts"), func(x *api.Shard) { x.Cut.Parts = n })
	}
	for _, n := range append(far(), s.Cut.Stages) {
		turn(fmt.Sprint("stage ", n), func(x *api.Shard) { x.Stage = n })
	}
	for _, n := range append(far(), s.Cut.Parts) {
		turn(fmt.Sprint("part ", n), func(x *api.Shard) { x.Part = n })
	}
	return all
}

// someShards are of whole models and of cuts: first and last stages, both at once, and neither.
func someShards(t *testing.T) []api.Shard {
	t.Helper()
	w := any8(t, middle(), 6)
	return []api.Shard{
		shardOf(t, w, cut(1, 1), 0, 0), shardOf(t, w, cut(1, 2), 0, 1), shardOf(t, w, cut(3, 2), 0, 0),
		shardOf(t, w, cut(3, 2), 1, 1), shardOf(t, w, cut(3, 1), 2, 0), shardOf(t, any8(t, of(1, 2, 1, 1, 1, 1), 7), cut(1, 1), 0, 0),
	}
}

func TestP131ShardsThatAreNotRight(t *testing.T) {
	for _, s := range someShards(t) {
		x, c := make([]int32, s.Shape.Width), store(t, 9)
		from, _ := stageLayers(s)
		k := make([]int8, s.Shape.Width/s.Cut.Parts)
		for what, wrong := range wrongShards(t, s) {
			refuseEnter(t, what, wrong, 0, api.ErrShape)
			refuseAttend(t, what, wrong, c, spot(1, from, 0), x, api.ErrShape)
			refuseWiden(t, what, wrong, from, x, api.ErrShape)
			refuseLeave(t, what, wrong, x, api.ErrShape)
			// And all else is wrong, too.
			for _, n := range []int{-1, 99, math.MinInt, math.MaxInt} {
				refuseEnter(t, what, wrong, n, api.ErrShape)
				refuseAttend(t, what, wrong, c, spot(n, n, n), x, api.ErrShape)
				refuseAttend(t, what, wrong, c, spot(n, n, n), nil, api.ErrShape)
				refuseAttend(t, what, wrong, nil, spot(n, n, n), nil, api.ErrNil)
				refuseWiden(t, what, wrong, n, x, api.ErrShape)
				refuseWiden(t, what, wrong, n, nil, api.ErrShape)
			}
			refuseLeave(t, what, wrong, nil, api.ErrShape)
			refuseLeave(t, what, wrong, x[1:], api.ErrShape)
			holdRows(t, what, wrong, k, [2]int{}, false)
			holdRows(t, what, wrong, nil, [2]int{}, false)
		}
	}
}

// wrongWidths are rows that aren't of a width.
func wrongWidths(width int) [][]int32 {
	return [][]int32{nil, {}, make([]int32, 1), make([]int32, width-1), make([]int32, width+1), make([]int32, 2*width), make([]int32, 256*width)}
}

func TestP131RowsOfOtherWidths(t *testing.T) {
	for _, s := range someShards(t) {
		c := store(t, 9)
		from, to := stageLayers(s)
		for _, x := range wrongWidths(s.Shape.Width) {
			for _, layer := range []int{from, to - 1, to, from - 1, math.MinInt, math.MaxInt} {
				refuseWiden(t, "x of another width", s, layer, x, api.ErrShape)
				for _, place := range []int{0, 1, s.Shape.Places, -1, math.MinInt, math.MaxInt} {
					refuseAttend(t, "x of another width", s, c, spot(0, layer, place), x, api.ErrShape)
					refuseAttend(t, "x of another width", s, c, spot(-1, layer, place), x, api.ErrShape)
				}
				refuseAttend(t, "x of another width, and no store", s, nil, spot(0, layer, 0), x, api.ErrNil)
			}
			// Of a stage that isn't the last one, too.
			refuseLeave(t, "x of another width", s, x, api.ErrShape)
		}
	}
}

func TestP131AWidthOfAnotherShape(t *testing.T) {
	// A part's width isn't the model's, nor is its inner width.
	s := shardOf(t, grown(t, of(2, 8, 4, 6, 3, 4), 8), cut(2, 2), 1, 1)
	for _, n := range []int{4, 3, 6, 2} {
		refuseAttend(t, "a part's width", s, store(t, 9), spot(0, 1, 0), make([]int32, n), api.ErrShape)
		refuseWiden(t, "a part's width", s, 1, make([]int32, n), api.ErrShape)
		refuseLeave(t, "a part's width", s, make([]int32, n), api.ErrShape)
	}
}

// holdSpot asks what stands in a worker's store.
func holdSpot(t *testing.T, c *cache.Store, at api.Spot, k, v []int8) {
	t.Helper()
	if gotK, gotV, ok := c.Get(at); !ok || !slices.Equal(gotK, k) || !slices.Equal(gotV, v) {
		t.Fatalf("at %v the store has %v, %v, %t, want %v, %v", at, gotK, gotV, ok, k, v)
	}
}

// holdPlaces goes through all places of one request in one layer, with any rows.
func holdPlaces(t *testing.T, w api.Weights, s api.Shard, layer int, xs [][]int32) {
	t.Helper()
	c := store(t, len(xs))
	ofPart := among(s.Shape.Width, s.Cut.Parts, s.Part)
	for place, x := range xs {
		at := spot(3, layer, place)
		want := attends(w, s.Cut.Parts, s.Part, layer, xs[:place+1]...)
		holdAttend(t, s, c, at, x, want.y)
		holdSpot(t, c, at, picked(want.ks[place], ofPart), picked(want.vs[place], ofPart))
		if c.Len() != place+1 {
			t.Fatalf("%v, %v: behind place %d the store has %d spots", s.Shape, s.Cut, place, c.Len())
		}
	}
}

func TestP132AttendIsWhatTheWordsSay(t *testing.T) {
	next := steady(11)
	eachCut(func(s api.Shape, c api.Cut) {
		for _, w := range kinds(t, s) {
			for _, shard := range allOf(t, w, c) {
				from, to := stageLayers(shard)
				for layer := from; layer < to; layer++ {
					holdPlaces(t, w, shard, layer, rows(min(s.Places, 4), s.Width, next))
				}
			}
		}
	})
}

func TestP132AllPlaces(t *testing.T) {
	next := steady(12)
	s := of(2, 8, 2, 2, 3, 256)
	w := any8(t, s, 13)
	shard := shardOf(t, w, cut(2, 2), 1, 1)
	xs := rows(256, 8, next)
	c := store(t, 257)
	for place, x := range xs {
		y := attend(t, shard, c, spot(0, 1, place), x)
		if place%51 == 0 {
			if want := attends(w, 2, 1, 1, xs[:place+1]...).y; !slices.Equal(y, want) {
				t.Fatalf("place %d: %v, want %v", place, y, want)
			}
		}
	}
	// Behind the last place there is room, and no gap; but it is none.
	refuseAttend(t, "behind the last place", shard, c, spot(0, 1, 256), xs[0], api.ErrArg)
	holdAttend(t, shard, c, spot(0, 1, 255), xs[255], attends(w, 2, 1, 1, xs...).y)
}

func TestP132TheGreatestShape(t *testing.T) {
	next := steady(14)
	w := any8(t, greatest(), 15)
	for _, at := range []struct {
		c                  api.Cut
		stage, part, layer int
	}{{cut(1, 1), 0, 0, 15}, {cut(4, 16), 3, 15, 12}, {cut(16, 4), 7, 1, 7}, {cut(3, 8), 1, 4, 9}} {
		holdPlaces(t, w, shardOf(t, w, at.c, at.stage, at.part), at.layer, rows(3, 128, next))
	}
}

// One head of two numbers, each weight on a row's own number alone: all is reckoned by hand.
func TestP132KnownNumbers(t *testing.T) {
	w := filled(t, of(1, 2, 1, 1, 1, 4), func() int8 { return 0 })
	b := &w.Blocks[0]
	// Norm makes 91 of 100 beside 0: 64 times the root of 2 is 90.5.
	b.First = []int8{32, 32}
	// Of 91 the keys have 90 (90.3), the values 46 (45.5: of two the even one).
	b.K.V, b.V.V, b.O.V = []int8{127, 0, 0, 127}, []int8{64, 0, 0, 64}, []int8{1, 2, -3, 4}
	s, c := shardOf(t, w, cut(1, 1), 0, 0), store(t, 4)
	// q is nought, so all places have one weight. Keys are turned by an eighth of a turn a place, values aren't.
	holdAttend(t, s, c, spot(0, 0, 0), []int32{100, 0}, []int32{46, -138})
	holdSpot(t, c, spot(0, 0, 0), []int8{90, 0}, []int8{46, 0})
	holdAttend(t, s, c, spot(0, 0, 1), []int32{-100, 0}, []int32{0, 0})
	holdSpot(t, c, spot(0, 0, 1), []int8{-64, -64}, []int8{-46, 0})
	holdAttend(t, s, c, spot(0, 0, 2), []int32{0, -100}, []int32{-30, -60})
	holdSpot(t, c, spot(0, 0, 2), []int8{90, 0}, []int8{0, -46})
	// q is -64 -64 at place 1: the key there, the same, has all the weight beside the one at place 0, 90 0.
	b.Q.V = b.K.V
	s, c = shardOf(t, w, cut(1, 1), 0, 0), store(t, 4)
	holdAttend(t, s, c, spot(0, 0, 0), []int32{100, 0}, []int32{46, -138})
	holdAttend(t, s, c, spot(0, 0, 1), []int32{-100, 0}, []int32{-46, 138})
}

func TestP132NoStore(t *testing.T) {
	for _, s := range someShards(t) {
		from, _ := stageLayers(s)
		for _, n := range append(far(), from) {
			for _, m := range append(far(), 0) {
				refuseAttend(t, "no store", s, nil, spot(m, n, m), make([]int32, s.Shape.Width), api.ErrNil)
				refuseAttend(t, "no store", s, nil, spot(m, n, m), nil, api.ErrNil)
			}
		}
	}
	refuseAttend(t, "no store, and no shard", api.Shard{}, nil, spot(0, 0, 0), nil, api.ErrNil)
}

func TestP132LayersOfOtherStages(t *testing.T) {
	eachCut(func(s api.Shape, c api.Cut) {
		x := make([]int32, s.Width)
		for _, shard := range allOf(t, grown(t, s, 16), c) {
			from, to := stageLayers(shard)
			full := store(t, 0)
			for layer := -1; layer <= s.Layers; layer++ {
				if from <= layer && layer < to {
					continue
				}
				refuseAttend(t, "another stage's layer", shard, store(t, 9), spot(1, layer, 0), x, api.ErrNone)
				refuseAttend(t, "another stage's layer", shard, full, spot(-1, layer, s.Places), x, api.ErrNone)
			}
			for _, layer := range far() {
				refuseAttend(t, "no layer", shard, store(t, 9), spot(1, layer, 0), x, api.ErrNone)
				refuseAttend(t, "no layer", shard, full, spot(layer, layer, layer), x, api.ErrNone)
			}
		}
	})
}

func TestP132PlacesThatAreNone(t *testing.T) {
	eachCut(func(s api.Shape, c api.Cut) {
		x := make([]int32, s.Width)
		for _, shard := range allOf(t, grown(t, s, 17), c) {
			from, to := stageLayers(shard)
			for _, place := range append(far(), s.Places, s.Places+1) {
				if place >= 0 && place < s.Places {
					continue
				}
				refuseAttend(t, "no place", shard, store(t, 9), spot(1, from, place), x, api.ErrArg)
				// And it is full, and the request is none.
				refuseAttend(t, "no place", shard, store(t, 0), spot(-1, to-1, place), x, api.ErrArg)
			}
		}
	})
}

func TestP132TheLastPlace(t *testing.T) {
	next := steady(18)
	for _, s := range shapes() {
		w := grown(t, s, 19)
		shard := shardOf(t, w, cut(s.Layers, 1), s.Layers-1, 0)
		c, xs := store(t, s.Places+1), rows(s.Places, s.Width, next)
		for place, x := range xs {
			holdAttend(t, shard, c, spot(8, s.Layers-1, place), x, attends(w, 1, 0, s.Layers-1, xs[:place+1]...).y)
		}
		refuseAttend(t, "behind the last place", shard, c, spot(8, s.Layers-1, s.Places), xs[0], api.ErrArg)
	}
}

func TestP132TheStoresErrors(t *testing.T) {
	next := steady(20)
	for _, s := range someShards(t) {
		from, _ := stageLayers(s)
		xs := rows(2, s.Shape.Width, next)
		c := store(t, 1)
		for _, request := range []int{-1, -2, -1 << 40, math.MinInt} {
			refuseAttend(t, "no request", s, c, spot(request, from, 0), xs[0], api.ErrArg)
			if s.Shape.Places > 1 {
				refuseAttend(t, "no request, and a gap", s, c, spot(request, from, 1), xs[0], api.ErrArg)
			}
		}
		for place := 1; place < s.Shape.Places; place++ {
			refuseAttend(t, "a gap", s, c, spot(0, from, place), xs[0], api.ErrGap)
			refuseAttend(t, "a gap, and full", s, store(t, 0), spot(0, from, place), xs[0], api.ErrGap)
		}
		refuseAttend(t, "full", s, store(t, 0), spot(0, from, 0), xs[0], api.ErrFull)
		attend(t, s, c, spot(0, from, 0), xs[0])
		refuseAttend(t, "full", s, c, spot(1, from, 0), xs[0], api.ErrFull)
		refuseAttend(t, "no request, and full", s, c, spot(-1, from, 0), xs[0], api.ErrArg)
		if s.Shape.Places > 2 {
			refuseAttend(t, "full", s, c, spot(0, from, 1), xs[1], api.ErrFull)
			refuseAttend(t, "a gap, and full", s, c, spot(0, from, 2), xs[1], api.ErrGap)
		}
	}
}

// only are weights of which keys alone, or values alone, are other than noughts.
func only(t *testing.T, keys bool) api.Weights {
	w := filled(t, of(1, 4, 2, 2, 3, 5), func() int8 { return 0 })
	b := &w.Blocks[0]
	b.First = []int8{64, 64, 64, 64}
	m := &b.V
	if keys {
		m = &b.K
	}
	for i := range m.V {
		m.V[i] = int8(i*17 - 60)
	}
	return w
}

func TestP132AnotherRowIsThere(t *testing.T) {
	for _, keys := range []bool{true, false} {
		w := only(t, keys)
		x, other := []int32{100, -50, 3, 900}, []int32{-100, 50, -3, 900}
		for at := range 2 {
			s, c := shardOf(t, w, cut(1, 2), 0, at), store(t, 4)
			attend(t, s, c, spot(5, 0, 0), x)
			attend(t, s, c, spot(5, 0, 1), x)
			before := kept(c)
			refuseAttend(t, "another row is there", s, c, spot(5, 0, 0), other, api.ErrArg)
			refuseAttend(t, "another row is there", s, c, spot(5, 0, 1), other, api.ErrArg)
			attend(t, s, c, spot(5, 0, 0), x)
			attend(t, s, c, spot(5, 0, 1), x)
			if kept(c) != before {
				t.Errorf("the same row again: the store is another")
			}
		}
	}
}

func TestP132AnotherRowIsThereInAFullStore(t *testing.T) {
	next := steady(21)
	w := any8(t, middle(), 22)
	s, c, xs := shardOf(t, w, cut(3, 2), 1, 1), store(t, 3), rows(3, 8, next)
	from, _ := stageLayers(s)
	for place, x := range xs {
		holdAttend(t, s, c, spot(2, from, place), x, attends(w, 2, 1, from, xs[:place+1]...).y)
	}
	for place := range xs {
		refuseAttend(t, "another row, and full", s, c, spot(2, from, place), row(8, next), api.ErrArg)
	}
	refuseAttend(t, "full", s, c, spot(2, from, 3), xs[0], api.ErrFull)
	before := kept(c)
	// What is there already stays, and the line goes up to the place alone.
	for _, place := range []int{2, 0, 1, 1, 0, 2} {
		holdAttend(t, s, c, spot(2, from, place), xs[place], attends(w, 2, 1, from, xs[:place+1]...).y)
	}
	if kept(c) != before {
		t.Error("the same rows again: the store is another")
	}
}

func TestP132SeveralRequestsAndLayersInOneStore(t *testing.T) {
	next := steady(23)
	w := any8(t, of(5, 8, 4, 6, 3, 6), 24)
	for _, c := range []api.Cut{cut(1, 1), cut(1, 2), cut(2, 2), cut(3, 1)} {
		for _, s := range allOf(t, w, c) {
			from, to := stageLayers(s)
			own := store(t, 400)
			fed := map[api.Spot][][]int32{}
			for range 60 {
				line := spot([]int{0, 1, 7, 1 << 40, math.MaxInt}[next()%5], from+int(next()%uint64(to-from)), 0)
				at := line
				at.Place = len(fed[line])
				if at.Place == 6 {
					continue
				}
				x := row(8, next)
				fed[line] = append(fed[line], x)
				holdAttend(t, s, own, at, x, attends(w, c.Parts, s.Part, at.Layer, fed[line]...).y)
			}
			spots := 0
			for _, xs := range fed {
				spots += len(xs)
			}
			if own.Len() != spots {
				t.Errorf("%v, stage %d, part %d: %d spots, not %d", c, s.Stage, s.Part, own.Len(), spots)
			}
		}
	}
}

func TestP132ARequestThatWasDropped(t *testing.T) {
	next := steady(25)
	w := any8(t, middle(), 26)
	s, c, xs := shardOf(t, w, cut(1, 2), 0, 0), store(t, 2), rows(4, 8, next)
	attend(t, s, c, spot(1, 4, 0), xs[0])
	attend(t, s, c, spot(1, 4, 1), xs[1])
	refuseAttend(t, "full", s, c, spot(2, 4, 0), xs[2], api.ErrFull)
	c.Drop(1)
	refuseAttend(t, "a gap", s, c, spot(1, 4, 1), xs[1], api.ErrGap)
	holdAttend(t, s, c, spot(1, 4, 0), xs[2], attends(w, 2, 0, 4, xs[2]).y)
	holdAttend(t, s, c, spot(1, 4, 1), xs[3], attends(w, 2, 0, 4, xs[2], xs[3]).y)
	c.Clear()
	holdAttend(t, s, c, spot(1, 4, 0), xs[0], attends(w, 2, 0, 4, xs[0]).y)
}

// putAt lays rows of a width at spots, whatever they are.
func putAt(t *testing.T, c *cache.Store, width int, ats ...api.Spot) {
	t.Helper()
	for _, at := range ats {
		if e := c.Put(at, make([]int8, width), make([]int8, width)); e != api.OK {
			t.Fatalf("Put at %v: error %d", at, e)
		}
	}
}

// A store that others used has rows that aren't as wide as the shard's: they are no places of its line.
func TestP132RowsOfOtherWidthsInTheStore(t *testing.T) {
	w := any8(t, middle(), 27)
	s, x := shardOf(t, w, cut(1, 2), 0, 1), []int32{9, -8, 700, 6, -5, 40, 3, 2}
	for _, width := range []int{0, 1, 2, 3, 5, 8, 200} {
		c := store(t, 9)
		putAt(t, c, width, spot(1, 0, 0), spot(1, 0, 1))
		refuseAttend(t, "odd rows ahead", s, c, spot(1, 0, 2), x, api.ErrShape)
		refuseAttend(t, "odd rows there", s, c, spot(1, 0, 1), x, api.ErrArg)
		refuseAttend(t, "odd rows there", s, c, spot(1, 0, 0), x, api.ErrArg)
		refuseAttend(t, "odd rows ahead, and a gap", s, c, spot(1, 0, 3), x, api.ErrGap)
		// Those of other lines don't matter.
		holdAttend(t, s, c, spot(2, 0, 0), x, attends(w, 2, 1, 0, x).y)
		holdAttend(t, s, c, spot(1, 1, 0), x, attends(w, 2, 1, 1, x).y)
		full := store(t, 1)
		putAt(t, full, width, spot(1, 0, 0))
		refuseAttend(t, "odd rows ahead, and full", s, full, spot(1, 0, 1), x, api.ErrFull)
	}
	// Nor do those behind the place.
	c := store(t, 9)
	y := attend(t, s, c, spot(1, 0, 0), x)
	putAt(t, c, 1, spot(1, 0, 1))
	holdAttend(t, s, c, spot(1, 0, 0), x, y)
	refuseAttend(t, "odd rows there", s, c, spot(1, 0, 1), x, api.ErrArg)
	refuseAttend(t, "odd rows ahead", s, c, spot(1, 0, 2), x, api.ErrShape)
	// Nor where the same row is there already: it is behind odd ones all the same.
	before := store(t, 9)
	attend(t, s, before, spot(1, 0, 0), x)
	attend(t, s, before, spot(1, 0, 1), x)
	k, v, _ := before.Get(spot(1, 0, 1))
	c = store(t, 9)
	putAt(t, c, 3, spot(1, 0, 0))
	if e := c.Put(spot(1, 0, 1), k, v); e != api.OK {
		t.Fatalf("Put: error %d", e)
	}
	refuseAttend(t, "the same row behind odd ones", s, c, spot(1, 0, 1), x, api.ErrShape)
}

func TestP133WidenIsWhatTheWordsSay(t *testing.T) {
	next := steady(28)
	eachCut(func(s api.Shape, c api.Cut) {
		for _, w := range kinds(t, s) {
			for _, shard := range allOf(t, w, c) {
				from, to := stageLayers(shard)
				for layer := from; layer < to; layer++ {
					x := row(s.Width, next)
					holdWiden(t, shard, layer, x, widens(w, c.Parts, shard.Part, layer, x))
				}
			}
		}
	})
}

func TestP133WidenOfTheGreatestShape(t *testing.T) {
	next := steady(29)
	w := any8(t, greatest(), 30)
	for _, c := range []api.Cut{cut(1, 1), cut(4, 16), cut(3, 8)} {
		for _, shard := range allOf(t, w, c) {
			_, to := stageLayers(shard)
			x := row(128, next)
			holdWiden(t, shard, to-1, x, widens(w, c.Parts, shard.Part, to-1, x))
		}
	}
}

func TestP133WidenOfKnownNumbers(t *testing.T) {
	w := filled(t, of(1, 4, 2, 2, 3, 5), func() int8 { return 0 })
	b := &w.Blocks[0]
	b.Second = []int8{16, 16, 16, 16}
	// Norm makes 32 of each 300, -32 of each -300: of Up come 64 times 32 by 128, 16, and less than nothing.
	copy(b.Up.V, []int8{64, 0, 0, 0, 0, 64, 0, 0})
	copy(b.Down.V, []int8{1, 10, 2, 20, 3, 30, -4, -40})
	first, second := shardOf(t, w, cut(1, 2), 0, 0), shardOf(t, w, cut(1, 2), 0, 1)
	x := []int32{300, -300, 300, -300}
	holdWiden(t, first, 0, x, []int32{16, 32, 48, -64})
	holdWiden(t, second, 0, x, []int32{0, 0, 0, 0})
	x = []int32{-300, 300, 300, -300}
	holdWiden(t, first, 0, x, []int32{0, 0, 0, 0})
	holdWiden(t, second, 0, x, []int32{160, 320, 480, -640})
	// Of two 300 beside noughts Norm makes 45, Up 22 (22.5: of two the even one), both together are Down's sum.
	holdWiden(t, shardOf(t, w, cut(1, 1), 0, 0), 0, []int32{300, 300, 0, 0}, []int32{242, 484, 726, -968})
}

func TestP133WidenOfOtherStagesLayers(t *testing.T) {
	eachCut(func(s api.Shape, c api.Cut) {
		x := make([]int32, s.Width)
		for _, shard := range allOf(t, grown(t, s, 31), c) {
			from, to := stageLayers(shard)
			for layer := -1; layer <= s.Layers; layer++ {
				if layer < from || layer >= to {
					refuseWiden(t, "another stage's layer", shard, layer, x, api.ErrNone)
				}
			}
			for _, layer := range far() {
				refuseWiden(t, "no layer", shard, layer, x, api.ErrNone)
			}
		}
	})
}

func TestP133JoinOfKnownNumbers(t *testing.T) {
	const low, high = math.MinInt32, math.MaxInt32
	x := []int32{0, 1, -1, 100, low, high, 7, 7}
	holdJoin(t, x, x)
	holdJoin(t, x, x, make([]int32, 8))
	holdJoin(t, []int32{1, 2, -2, 100, low, high, 9, 8}, x, []int32{16, 16, -16, 8, -8, 8, 24, 23})
	// x wraps.
	holdJoin(t, []int32{1, 2, 0, 101, high, low, 8, 8}, x, []int32{16, 16, 16, 24 - 8, -16, 16, 15, 9})
	// By 16, to the nearest one, of two the even one: 8 is half of one, 24 one and a half.
	holdJoin(t, []int32{0, 2, 2, 4, 0, -2, -2, 0}, make([]int32, 8), []int32{8, 24, 40, 56, -8, -24, -40, 7})
	// The parts' sum is brought down, not each part.
	holdJoin(t, []int32{1, 0, 1}, make([]int32, 3), []int32{8, 4, 4}, []int32{8, 4, 5}, []int32{0, 0, 0})
	holdJoin(t, []int32{5}, []int32{4}, []int32{5}, []int32{5}, []int32{5}, []int32{5})
	// The parts' sum wraps.
	holdJoin(t, []int32{-1 << 27}, []int32{0}, []int32{high}, []int32{1})
	holdJoin(t, []int32{1 << 27}, []int32{0}, []int32{low}, []int32{-1})
	holdJoin(t, []int32{0}, []int32{0}, []int32{low}, []int32{low})
	holdJoin(t, []int32{-1}, []int32{0}, []int32{high}, []int32{high}, []int32{-14})
	holdJoin(t, []int32{high}, []int32{low}, []int32{low}, []int32{low}, []int32{-16})
	// A wrap on the way doesn't matter.
	holdJoin(t, []int32{3}, []int32{2}, []int32{high}, []int32{high}, []int32{low + 1}, []int32{low + 1}, []int32{16})
}

func TestP133JoinIsWhatTheWordsSay(t *testing.T) {
	next := steady(32)
	for width := range 9 {
		for parts := range 17 {
			for range 5 {
				x, ys := row(width, next), rows(parts, width, next)
				holdJoin(t, joins(x, ys...), x, ys...)
			}
		}
	}
	x, ys := row(5000, next), rows(300, 5000, next)
	holdJoin(t, joins(x, ys...), x, ys...)
}

func TestP133JoinOfNoNumbers(t *testing.T) {
	holdJoin(t, nil, nil)
	holdJoin(t, nil, []int32{})
	holdJoin(t, nil, nil, nil, []int32{}, nil)
	holdJoin(t, nil, []int32{}, nil)
}

func TestP133JoinOfUnlikeWidths(t *testing.T) {
	x := []int32{1, 2, 3, 4}
	for what, y := range map[string][]int32{"nil": nil, "none": {}, "one": {1}, "one less": x[1:], "one more": {1, 2, 3, 4, 5}, "many": make([]int32, 4096)} {
		refuseJoin(t, what, x, y)
		refuseJoin(t, what+", the first one", x, y, x, x)
		refuseJoin(t, what+", in the middle", x, x, y, x)
		refuseJoin(t, what+", the last one", x, x, x, y)
		refuseJoin(t, what+", all", x, y, y)
		if len(y) > 0 {
			refuseJoin(t, what+", x", y, x)
			refuseJoin(t, what+", nil", y, nil)
		}
	}
	refuseJoin(t, "x is nil", nil, x)
	refuseJoin(t, "x is nil", nil, nil, x)
}

// crew are all workers of a cut: by their numbers shards, and stores.
type crew struct {
	shape  api.Shape
	cut    api.Cut
	shards []api.Shard
	stores []*cache.Store
}

// crewOf is that of weights and a cut; each worker's store has just the room for so many tokens.
func crewOf(t *testing.T, w api.Weights, c api.Cut, tokens int) crew {
	t.Helper()
	cr := crew{shape: w.Shape, cut: c, shards: allOf(t, w, c)}
	for _, s := range cr.shards {
		cr.stores = append(cr.stores, store(t, tokens*len(s.Blocks)))
	}
	return cr
}

// mixes are ways to hand on parts of a sum: in other orders, and summed in groups ahead, as a ring does.
func mixes() map[string]func(ys [][]int32) [][]int32 {
	return map[string]func(ys [][]int32) [][]int32{
		"in order": func(ys [][]int32) [][]int32 { return ys },
		"turned about": func(ys [][]int32) [][]int32 {
			slices.Reverse(ys)
			return ys
		},
		"from the middle on": func(ys [][]int32) [][]int32 { return append(slices.Clone(ys[len(ys)/2:]), ys[:len(ys)/2]...) },
		"one sum":            func(ys [][]int32) [][]int32 { return [][]int32{summed(ys)} },
		"two sums": func(ys [][]int32) [][]int32 {
			return [][]int32{summed(ys[1:]), ys[0]}
		},
		"with noughts": func(ys [][]int32) [][]int32 { return append(ys, make([]int32, len(ys[0])), make([]int32, len(ys[0]))) },
	}
}

// summed is the sum of some rows of one width, wrapped; nil of no rows.
func summed(ys [][]int32) []int32 {
	if len(ys) == 0 {
		return nil
	}
	sum := make([]int32, len(ys[0]))
	for _, y := range ys {
		for i, n := range y {
			sum[i] += n
		}
	}
	return sum
}

// joined is Join of x and parts, handed on by a mix; sums of no rows are left out.
func joined(t *testing.T, x []int32, ys [][]int32, mix func([][]int32) [][]int32) []int32 {
	t.Helper()
	ys = slices.DeleteFunc(mix(ys), func(y []int32) bool { return y == nil })
	z, e := Join(x, ys...)
	if e != api.OK {
		t.Fatalf("Join: error %d", e)
	}
	return z
}

// layer lets x go through a layer, at all workers of a stage; from says which of them is the first one to reckon.
func (cr crew) layer(t *testing.T, stage, from int, at api.Spot, x []int32, mix func([][]int32) [][]int32) []int32 {
	t.Helper()
	workers := make([]int, cr.cut.Parts)
	for i := range workers {
		workers[i] = stage*cr.cut.Parts + (from+i)%cr.cut.Parts
	}
	var ys, zs [][]int32
	for _, worker := range workers {
		ys = append(ys, attend(t, cr.shards[worker], cr.stores[worker], at, x))
	}
	x = joined(t, x, ys, mix)
	for _, worker := range workers {
		z, e := Widen(cr.shards[worker], at.Layer, x)
		if e != api.OK {
			t.Fatalf("Widen: error %d", e)
		}
		zs = append(zs, z)
	}
	return joined(t, x, zs, mix)
}

// feed lets a token of a request go through all stages; any part of the first and of the last one may be asked.
func (cr crew) feed(t *testing.T, request, place, token, from int, mix func([][]int32) [][]int32) []int32 {
	t.Helper()
	ask := from % cr.cut.Parts
	x, e := Enter(cr.shards[ask], token)
	if e != api.OK {
		t.Fatalf("Enter: error %d", e)
	}
	for stage := range cr.cut.Stages {
		first, behind := stageLayers(cr.shards[stage*cr.cut.Parts])
		for layer := first; layer < behind; layer++ {
			x = cr.layer(t, stage, from, spot(request, layer, place), x, mix)
		}
	}
	y, e := Leave(cr.shards[len(cr.shards)-1-ask], x)
	if e != api.OK {
		t.Fatalf("Leave: error %d", e)
	}
	return y
}

// holdKept holds what the workers' stores have of a request, part behind part, against what a run keeps.
func (cr crew) holdKept(t *testing.T, request int, run *model.Run) {
	t.Helper()
	for stage := range cr.cut.Stages {
		first, behind := stageLayers(cr.shards[stage*cr.cut.Parts])
		for layer := first; layer < behind; layer++ {
			for place := range run.Place() {
				var k, v []int8
				for at := range cr.cut.Parts {
					worker := stage*cr.cut.Parts + at
					partK, partV, ok := cr.stores[worker].Get(spot(request, layer, place))
					holdRows(t, "what is kept", cr.shards[worker], partK, [2]int{len(k), len(k) + len(partK)}, ok)
					k, v = append(k, partK...), append(v, partV...)
				}
				wantK, wantV, _ := run.Kept(layer, place)
				if !slices.Equal(k, wantK) || !slices.Equal(v, wantV) {
					t.Fatalf("%v, %v: request %d, layer %d, place %d: %v, %v is kept, want %v, %v", cr.shape, cr.cut, request, layer, place, k, v, wantK, wantV)
				}
			}
		}
	}
}

// holdSpots asks that each store has so many spots of each of its layers, and no others.
func (cr crew) holdSpots(t *testing.T, tokens int, requests ...int) {
	t.Helper()
	for worker, c := range cr.stores {
		if got := c.Requests(); c.Len() != tokens*len(cr.shards[worker].Blocks) || !slices.Equal(got, requests) {
			t.Errorf("%v, %v: worker %d has %d spots of %v", cr.shape, cr.cut, worker, c.Len(), got)
		}
	}
}

// runOf is a run of the whole model.
func runOf(t *testing.T, w api.Weights) *model.Run {
	t.Helper()
	m, e := model.New(w)
	if e != api.OK {
		t.Fatalf("New of %v: error %d", w.Shape, e)
	}
	return m.Run()
}

func TestP134AllWorkersAreTheModel(t *testing.T) {
	next := steady(33)
	eachCut(func(s api.Shape, c api.Cut) {
		for _, w := range kinds(t, s) {
			places := min(s.Places, 4)
			cr, run := crewOf(t, w, c, places), runOf(t, w)
			for place := range places {
				token := int(next()) % s.Vocab
				want, _ := run.Feed(token)
				if got := cr.feed(t, 6, place, token, 0, mixes()["in order"]); !slices.Equal(got, want) {
					t.Fatalf("%v, %v: place %d: %v, want %v", s, c, place, got, want)
				}
			}
			cr.holdKept(t, 6, run)
			cr.holdSpots(t, places, 6)
		}
	})
}

func TestP134InWhateverOrder(t *testing.T) {
	next := steady(34)
	eachCut(func(s api.Shape, c api.Cut) {
		for what, mix := range mixes() {
			for _, w := range kinds(t, s)[:2] {
				places := min(s.Places, 3)
				cr, run := crewOf(t, w, c, places), runOf(t, w)
				for place := range places {
					token := int(next()) % s.Vocab
					want, _ := run.Feed(token)
					if got := cr.feed(t, 6, place, token, place+1, mix); !slices.Equal(got, want) {
						t.Fatalf("%v, %v, %s: place %d: %v, want %v", s, c, what, place, got, want)
					}
				}
				cr.holdKept(t, 6, run)
			}
		}
	})
}

// orders are all orders of n things.
func orders(n int) [][]int {
	if n == 0 {
		return [][]int{nil}
	}
	var all [][]int
	for _, o := range orders(n - 1) {
		for at := range n {
			all = append(all, slices.Insert(slices.Clone(o), at, n-1))
		}
	}
	return all
}

func TestP134AllOrdersOfParts(t *testing.T) {
	w := any8(t, of(2, 16, 4, 8, 7, 3), 35)
	for _, o := range orders(4) {
		mix := func(ys [][]int32) [][]int32 {
			var out [][]int32
			for _, i := range o {
				out = append(out, ys[i])
			}
			return out
		}
		cr, run := crewOf(t, w, cut(2, 4), 3), runOf(t, w)
		for place, token := range []int{6, 0, 3} {
			want, _ := run.Feed(token)
			if got := cr.feed(t, 1, place, token, 0, mix); !slices.Equal(got, want) {
				t.Fatalf("%v: place %d: %v, want %v", o, place, got, want)
			}
		}
		cr.holdKept(t, 1, run)
	}
}

func TestP134SeveralRequestsAtOnce(t *testing.T) {
	next := steady(36)
	w := any8(t, of(5, 8, 4, 6, 7, 6), 37)
	requests := []int{0, 1, 5, math.MaxInt}
	for _, c := range rightCuts(w.Shape) {
		cr := crewOf(t, w, c, 6*len(requests))
		runs := map[int]*model.Run{}
		for _, request := range requests {
			runs[request] = runOf(t, w)
		}
		for fed := 0; fed < 6*len(requests); {
			request := requests[next()%4]
			run := runs[request]
			if run.Place() == 6 {
				continue
			}
			place, token := run.Place(), int(next())%7
			want, _ := run.Feed(token)
			if got := cr.feed(t, request, place, token, int(next()%7), mixes()["turned about"]); !slices.Equal(got, want) {
				t.Fatalf("%v: request %d, place %d: %v, want %v", c, request, place, got, want)
			}
			fed++
		}
		for _, request := range requests {
			cr.holdKept(t, request, runs[request])
		}
		cr.holdSpots(t, 6*len(requests), requests...)
	}
}

func TestP134TheGreatestShape(t *testing.T) {
	w := grown(t, greatest(), 38)
	for _, c := range []api.Cut{cut(1, 1), cut(4, 16), cut(16, 4), cut(5, 8)} {
		cr, run := crewOf(t, w, c, 2), runOf(t, w)
		for place, token := range []int{511, 0} {
			want, _ := run.Feed(token)
			if got := cr.feed(t, 0, place, token, place, mixes()["two sums"]); !slices.Equal(got, want) {
				t.Fatalf("%v: place %d: other weights", c, place)
			}
		}
		cr.holdKept(t, 0, run)
	}
}

func TestP134AllPlaces(t *testing.T) {
	next := steady(39)
	w := grown(t, of(2, 4, 2, 2, 5, 256), 40)
	cr, run := crewOf(t, w, cut(2, 2), 256), runOf(t, w)
	for place := range 256 {
		token := int(next() % 5)
		want, _ := run.Feed(token)
		if got := cr.feed(t, 3, place, token, place, mixes()["one sum"]); !slices.Equal(got, want) {
			t.Fatalf("place %d: %v, want %v", place, got, want)
		}
	}
	cr.holdKept(t, 3, run)
	refuseAttend(t, "behind the last place", cr.shards[0], cr.stores[0], spot(3, 0, 256), make([]int32, 4), api.ErrArg)
}

func TestP134OneStageAndOnePartIsFeed(t *testing.T) {
	for _, s := range shapes() {
		w := grown(t, s, 41)
		shard, c, run := shardOf(t, w, cut(1, 1), 0, 0), store(t, s.Layers*s.Places), runOf(t, w)
		for place := range s.Places {
			token := (place * 5) % s.Vocab
			want, _ := run.Feed(token)
			x := holdEnter(t, shard, token, entered(w, token))
			for layer := range s.Layers {
				x, _ = Join(x, attend(t, shard, c, spot(9, layer, place), x))
				z, e := Widen(shard, layer, x)
				if e != api.OK {
					t.Fatalf("%v: Widen: error %d", s, e)
				}
				x, _ = Join(x, z)
			}
			holdLeave(t, shard, x, want)
			for layer := range s.Layers {
				k, v, _ := run.Kept(layer, place)
				holdSpot(t, c, spot(9, layer, place), k, v)
				holdRows(t, "the whole row", shard, k, [2]int{0, s.Width}, true)
			}
		}
	}
}

func TestP135RowsOfAllParts(t *testing.T) {
	eachCut(func(s api.Shape, c api.Cut) {
		for _, shard := range allOf(t, grown(t, s, 43), c) {
			heads, e := slice.Heads(s, c, shard.Part)
			width := s.Width / s.Heads
			want := [2]int{heads[0] * width, heads[1] * width}
			if e != api.OK || want[1]-want[0] != s.Width/c.Parts {
				t.Fatalf("%v, %v, part %d: heads %v", s, c, shard.Part, heads)
			}
			for n := range s.Width + 3 {
				if n == s.Width/c.Parts {
					holdRows(t, "so wide", shard, make([]int8, n), want, true)
				} else {
					holdRows(t, "not so wide", shard, make([]int8, n), [2]int{}, false)
				}
			}
			holdRows(t, "no keys", shard, nil, [2]int{}, false)
			holdRows(t, "many keys", shard, make([]int8, 1<<16), [2]int{}, false)
		}
	})
}

func TestP135RowsAreEachOnce(t *testing.T) {
	eachCut(func(s api.Shape, c api.Cut) {
		for stage := range c.Stages {
			behind := 0
			for at := range c.Parts {
				got, ok := Rows(shardOf(t, grown(t, s, 44), c, stage, at), make([]int8, s.Width/c.Parts))
				if !ok || got[0] != behind || got[1] <= got[0] {
					t.Errorf("%v, %v, stage %d, part %d: %v, %t", s, c, stage, at, got, ok)
				}
				behind = got[1]
			}
			if behind != s.Width {
				t.Errorf("%v, %v, stage %d: the parts end at %d", s, c, stage, behind)
			}
		}
	})
}

// fence gives a list spare room, and answers it, and all of it.
func fence[N int8 | int32](xs []N) ([]N, []N) {
	all := append(slices.Clone(xs), 11, 22, 33, 44, 55)
	return all[:len(xs)], all
}

// fenceShard gives all lists of a shard spare room, and answers all of them.
func fenceShard(s *api.Shard) [][]int8 {
	s.Blocks = append(make([]api.Block, 0, len(s.Blocks)+2), s.Blocks...)
	var all [][]int8
	for _, l := range lists(s) {
		list, whole := fence(*l)
		*l = list
		all = append(all, whole)
	}
	return all
}

// spoil changes each number of a list, its spare room with it.
func spoil[N int8 | int32](xs []N) {
	xs = xs[:cap(xs)]
	for i := range xs {
		xs[i] = ^xs[i]
	}
}

// spoilShard changes all that a shard has.
func spoilShard(s *api.Shard) {
	for _, l := range lists(s) {
		spoil(*l)
	}
	for i := range s.Blocks[:cap(s.Blocks)] {
		s.Blocks[:cap(s.Blocks)][i] = api.Block{}
	}
}

// clones are copies of lists.
func clones[N any](lists [][]N) [][]N {
	var all [][]N
	for _, l := range lists {
		all = append(all, slices.Clone(l))
	}
	return all
}

// alike: have lists the same numbers?
func alike[N comparable](a, b [][]N) bool { return slices.EqualFunc(a, b, slices.Equal[[]N]) }

// wholeShard is one of one stage and one part, and its weights.
func wholeShard(t *testing.T) (api.Weights, api.Shard) {
	w := any8(t, of(2, 8, 4, 6, 5, 4), 45)
	return w, shardOf(t, w, cut(1, 1), 0, 0)
}

func TestP135WhatIsHandedInStays(t *testing.T) {
	next := steady(46)
	_, s := wholeShard(t)
	was := copyOf(s)
	numbers := fenceShard(&s)
	x, allX := fence(row(8, next))
	k, allK := fence(make([]int8, 8))
	y, allY := fence(row(8, next))
	ys, all := [][]int32{y, x, y}, [][]int32{y, x, y, {77}}
	wereNumbers, wereX, wereK, wereY := clones(numbers), slices.Clone(allX), slices.Clone(allK), slices.Clone(allY)
	c := store(t, 9)
	ask := func(layer, place int) {
		Enter(s, layer)
		Attend(s, c, spot(0, layer, place), x)
		Attend(s, nil, spot(0, layer, place), x)
		Widen(s, layer, x)
		Join(x, ys...)
		Join(x, all[:3]...)
		Join(x)
		Join(x, all...)
		Leave(s, x)
		Rows(s, k)
	}
	for _, layer := range []int{0, 1, 2, -1} {
		for _, place := range []int{0, 1, 1, 3, 4, -1} {
			ask(layer, place)
		}
	}
	if !sameShard(s, was) || !alike(numbers, wereNumbers) {
		t.Error("the shard that was handed in is another")
	}
	if !slices.Equal(allX, wereX) || !slices.Equal(allK, wereK) || !slices.Equal(allY, wereY) || len(all) != 4 || all[3][0] != 77 {
		t.Error("the rows that were handed in are others")
	}
}

func TestP135WhatIsHandedInIsNotKept(t *testing.T) {
	next := steady(47)
	w, was := wholeShard(t)
	c := store(t, 9)
	var xs [][]int32
	for place := range 4 {
		s := copyOf(was)
		fenceShard(&s)
		x, _ := fence(row(8, next))
		y, _ := fence(row(8, next))
		xs = append(xs, slices.Clone(x))
		want := attends(w, 1, 0, 1, xs...)
		answers := [][]int32{
			must(Enter(s, place)), must(Attend(s, c, spot(0, 1, place), x)), must(Widen(s, 1, x)), must(Join(x, y)), must(Join(x)), must(Leave(s, x)),
		}
		wanted := [][]int32{
			entered(w, place), want.y, widens(w, 1, 0, 1, x), joins(x, y), slices.Clone(x), left(w, x),
		}
		spoilShard(&s)
		spoil(x)
		spoil(y)
		if !alike(answers, wanted) {
			t.Errorf("place %d: a change of what was handed in changes an answer: %v, want %v", place, answers, wanted)
		}
		for before := range place + 1 {
			holdSpot(t, c, spot(0, 1, before), want.ks[before], want.vs[before])
			holdAttend(t, was, c, spot(0, 1, before), xs[before], attends(w, 1, 0, 1, xs[:before+1]...).y)
		}
	}
}

func TestP135AnswersAreNewMemory(t *testing.T) {
	next := steady(48)
	_, s := wholeShard(t)
	was := copyOf(s)
	x, y := row(8, next), row(8, next)
	wereX, wereY := slices.Clone(x), slices.Clone(y)
	c := store(t, 9)
	for what, ask := range map[string]func() []int32{
		"Enter":           func() []int32 { return must(Enter(s, 3)) },
		"Attend":          func() []int32 { return must(Attend(s, c, spot(0, 0, 0), x)) },
		"Widen":           func() []int32 { return must(Widen(s, 0, x)) },
		"Join of none":    func() []int32 { return must(Join(x)) },
		"Join of one":     func() []int32 { return must(Join(x, y)) },
		"Join of noughts": func() []int32 { return must(Join(x, make([]int32, 8))) },
		"Join with none":  func() []int32 { return must(Join(make([]int32, 8), y, y)) },
		"Leave":           func() []int32 { return must(Leave(s, x)) },
	} {
		first := ask()
		want := slices.Clone(first)
		second := ask()
		spoil(second)
		if third := ask(); !slices.Equal(first, want) || !slices.Equal(third, want) {
			t.Errorf("%s: a change of an answer changes another", what)
		}
		if !slices.Equal(x, wereX) || !slices.Equal(y, wereY) || !sameShard(s, was) {
			t.Errorf("%s: a change of an answer changes what was handed in", what)
		}
	}
	before := kept(c)
	spoil(must(Attend(s, c, spot(0, 0, 0), x)))
	if kept(c) != before {
		t.Error("Attend: a change of an answer changes the store")
	}
}

func TestP135NothingElseIsKept(t *testing.T) {
	// What other calls were asked ahead, of other shards and stores, doesn't matter.
	next := steady(49)
	w, s := wholeShard(t)
	other := shardOf(t, grown(t, of(2, 8, 4, 6, 5, 4), 50), cut(1, 1), 0, 0)
	c, busy := store(t, 9), store(t, 99)
	xs := rows(4, 8, next)
	for place, x := range xs {
		for layer := range 2 {
			attend(t, other, busy, spot(0, layer, place), row(8, next))
			Attend(other, c, spot(0, 5, place), x)
			Widen(other, layer, x)
			Enter(other, place)
			Leave(other, x)
			Join(row(8, next), x)
		}
		holdAttend(t, s, c, spot(0, 1, place), x, attends(w, 1, 0, 1, xs[:place+1]...).y)
	}
}

func TestP135NoCallPanics(t *testing.T) {
	ends := append(far(), 0, 1, 2, 3, 8)
	_, good := wholeShard(t)
	for _, n := range ends {
		for _, m := range ends {
			huge := api.Mat{Rows: n, Cols: m}
			b := api.Block{Q: huge, K: huge, V: huge, O: huge, Up: huge, Down: huge}
			odd := api.Shard{Shape: of(n, m, n, m, n, m), Cut: cut(n, m), Stage: m, Part: n, Embed: huge, Blocks: []api.Block{b}, Head: huge}
			shaped := odd
			shaped.Shape, shaped.Cut, shaped.Stage, shaped.Part = good.Shape, good.Cut, 0, 0
			turned := good
			turned.Cut, turned.Stage, turned.Part = cut(n, m), m, n
			for _, s := range []api.Shard{odd, shaped, turned, good, {}} {
				for _, x := range [][]int32{nil, make([]int32, 8), make([]int32, 3)} {
					c := store(t, 2)
					Enter(s, n)
					Attend(s, c, spot(n, m, n), x)
					Attend(s, c, spot(m, 1, n), x)
					Attend(s, c, spot(0, n, m), x)
					Attend(s, nil, spot(n, n, n), x)
					Widen(s, n, x)
					Join(x, nil, x)
					Leave(s, x)
					Rows(s, nil)
					Rows(s, make([]int8, 8))
				}
			}
		}
	}
}
