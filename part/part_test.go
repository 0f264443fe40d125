package part

import (
	"fmt"
	"math"
	"slices"
	"testing"

	"peloton/api"
	"peloton/slice"
	"peloton/weight"
)

// steady answers numbers by a fixed rule, so that a test is the same each time.
func steady(seed uint64) func() uint64 {
	return func() uint64 {
		seed = seed*6364136223846793005 + 1442695040888963407
		return seed ^ seed>>29
	}
}

// any8 answers numbers of all 8 bits.
func any8(seed uint64) func() int8 {
	next := steady(seed)
	return func() int8 { return int8(next() >> 16) }
}

// noughts answers no other number.
func noughts() int8 { return 0 }

// of is a shape of the given numbers.
func of(layers, width, heads, inner, vocab, places int) api.Shape {
	return api.Shape{Layers: layers, Width: width, Heads: heads, Inner: inner, Vocab: vocab, Places: places}
}

// cut is one of so many stages and parts.
func cut(stages, parts int) api.Cut { return api.Cut{Stages: stages, Parts: parts} }

// example is the chapter's shape; middle has stages that are neither the first nor the last one, and not all of one size; greatest is the one of most numbers.
func example() api.Shape  { return of(1, 4, 2, 2, 3, 5) }
func middle() api.Shape   { return of(5, 8, 4, 6, 3, 4) }
func greatest() api.Shape { return of(16, 128, 16, 256, 512, 256) }

// shapes are some that are right; the greatest isn't among them.
func shapes() []api.Shape {
	return []api.Shape{
		example(), middle(), of(1, 2, 1, 1, 1, 1), of(3, 8, 4, 6, 5, 4), of(2, 8, 4, 8, 7, 3), of(4, 24, 6, 4, 2, 9), of(3, 24, 12, 18, 5, 256),
		of(16, 8, 4, 4, 3, 2), of(2, 32, 16, 16, 4, 5), of(7, 10, 5, 5, 6, 7), of(2, 128, 1, 3, 2, 1), of(1, 4, 2, 256, 2, 2), of(2, 12, 3, 9, 512, 3),
	}
}

// rightCuts are all cuts of a shape that the chapter of layer 10 calls right.
func rightCuts(s api.Shape) []api.Cut {
	var cs []api.Cut
	for stages := 1; stages <= s.Layers; stages++ {
		for parts := 1; parts <= 64; parts++ {
			if s.Heads%parts == 0 && s.Inner%parts == 0 && stages*parts <= 64 {
				cs = append(cs, cut(stages, parts))
			}
		}
	}
	return cs
}

// far are numbers that no stage or part is.
func far() []int {
	return []int{-1, -2, -64, 64, 65, 4096, 1 << 32, 1<<32 + 1, -1 << 32, 1 << 62, math.MinInt, math.MinInt + 1, math.MaxInt - 1, math.MaxInt}
}

// matrix is one whose numbers next answers.
func matrix(rows, cols int, next func() int8) api.Mat {
	m := api.Mat{Rows: rows, Cols: cols}
	for range rows * cols {
		m.V = append(m.V, next())
	}
	return m
}

// row is one whose numbers next answers.
func row(n int, next func() int8) []int8 { return matrix(1, n, next).V }

// made are weights of a shape whose numbers next answers; made without the package, and without layer 7.
func made(s api.Shape, next func() int8) api.Weights {
	d, n := s.Width, s.Inner
	w := api.Weights{Shape: s, Embed: matrix(s.Vocab, d, next)}
	for range s.Layers {
		w.Blocks = append(w.Blocks, api.Block{
			First: row(d, next), Q: matrix(d, d, next), K: matrix(d, d, next), V: matrix(d, d, next), O: matrix(d, d, next),
			Second: row(d, next), Up: matrix(n, d, next), Down: matrix(d, n, next),
		})
	}
	w.Last, w.Head = row(d, next), matrix(s.Vocab, d, next)
	return w
}

// blockLists points at a block's lists.
func blockLists(b *api.Block) []*[]int8 {
	return []*[]int8{&b.First, &b.Q.V, &b.K.V, &b.V.V, &b.O.V, &b.Second, &b.Up.V, &b.Down.V}
}

// blockMatrices points at a block's matrices.
func blockMatrices(b *api.Block) []*api.Mat {
	return []*api.Mat{&b.Q, &b.K, &b.V, &b.O, &b.Up, &b.Down}
}

// weightLists points at the lists of weights: Embed's, the blocks', Last, Head's.
func weightLists(w *api.Weights) []*[]int8 {
	all := []*[]int8{&w.Embed.V}
	for i := range w.Blocks {
		all = append(all, blockLists(&w.Blocks[i])...)
	}
	return append(all, &w.Last, &w.Head.V)
}

// shardLists points at a shard's lists, in the same order.
func shardLists(s *api.Shard) []*[]int8 {
	all := []*[]int8{&s.Embed.V}
	for i := range s.Blocks {
		all = append(all, blockLists(&s.Blocks[i])...)
	}
	return append(all, &s.Last, &s.Head.V)
}

// weightMatrices points at the matrices of weights.
func weightMatrices(w *api.Weights) []*api.Mat {
	all := []*api.Mat{&w.Embed, &w.Head}
	for i := range w.Blocks {
		all = append(all, blockMatrices(&w.Blocks[i])...)
	}
	return all
}

// shardMatrices points at a shard's matrices.
func shardMatrices(s *api.Shard) []*api.Mat {
	all := []*api.Mat{&s.Embed, &s.Head}
	for i := range s.Blocks {
		all = append(all, blockMatrices(&s.Blocks[i])...)
	}
	return all
}

// copyOf are new weights of the same numbers.
func copyOf(w api.Weights) api.Weights {
	w.Blocks = slices.Clone(w.Blocks)
	for _, l := range weightLists(&w) {
		*l = slices.Clone(*l)
	}
	return w
}

// copyOfShard is a new shard of the same numbers.
func copyOfShard(s api.Shard) api.Shard {
	s.Blocks = slices.Clone(s.Blocks)
	for _, l := range shardLists(&s) {
		*l = slices.Clone(*l)
	}
	return s
}

// copyOfShards are new ones of the same numbers.
func copyOfShards(ss []api.Shard) []api.Shard {
	var all []api.Shard
	for _, s := range ss {
		all = append(all, copyOfShard(s))
	}
	return all
}

// sameLists: have lists the same numbers, and matrices the same sides?
func sameLists(as, bs []*[]int8, ms, ns []*api.Mat) bool {
	return slices.EqualFunc(as, bs, func(a, b *[]int8) bool { return slices.Equal(*a, *b) }) &&
		slices.EqualFunc(ms, ns, func(m, n *api.Mat) bool { return m.Rows == n.Rows && m.Cols == n.Cols })
}

// sameWeights: have weights the same shape, the same sides and the same numbers?
func sameWeights(a, b api.Weights) bool {
	return a.Shape == b.Shape && len(a.Blocks) == len(b.Blocks) &&
		sameLists(weightLists(&a), weightLists(&b), weightMatrices(&a), weightMatrices(&b))
}

// sameShard: the same of shards, and are they the same worker's of the same cut?
func sameShard(a, b api.Shard) bool {
	return a.Shape == b.Shape && a.Cut == b.Cut && a.Stage == b.Stage && a.Part == b.Part && len(a.Blocks) == len(b.Blocks) &&
		sameLists(shardLists(&a), shardLists(&b), shardMatrices(&a), shardMatrices(&b))
}

// sameShards: are they the same, one by one?
func sameShards(as, bs []api.Shard) bool { return slices.EqualFunc(as, bs, sameShard) }

// among: is x, of n things in m parts, one of part i?
func among(n, m, i int) func(x int) bool {
	return func(x int) bool { return i*n/m <= x && x < (i+1)*n/m }
}

// each: all are.
func each(int) bool { return true }

// picked are the cells of a matrix that stand in some rows and some columns, one by one.
func picked(m api.Mat, inRow, inCol func(int) bool) api.Mat {
	p := api.Mat{}
	for r := range m.Rows {
		if inRow(r) {
			p.Rows++
		}
		for c := range m.Cols {
			if inRow(r) && inCol(c) {
				p.V = append(p.V, m.V[r*m.Cols+c])
			}
		}
	}
	for c := range m.Cols {
		if inCol(c) {
			p.Cols++
		}
	}
	return p
}

// wanted is a worker's shard as the chapter's words say it.
func wanted(w api.Weights, c api.Cut, stage, part int) api.Shard {
	s := w.Shape
	x := api.Shard{Shape: s, Cut: c, Stage: stage, Part: part}
	inStage, inHeads, inInner := among(s.Layers, c.Stages, stage), among(s.Heads, c.Parts, part), among(s.Inner, c.Parts, part)
	ofHeads := func(i int) bool { return inHeads(i / (s.Width / s.Heads)) }
	if stage == 0 {
		x.Embed = picked(w.Embed, each, each)
	}
	for layer, b := range w.Blocks {
		if inStage(layer) {
			x.Blocks = append(x.Blocks, api.Block{
				First: b.First, Second: b.Second,
				Q: picked(b.Q, ofHeads, each), K: picked(b.K, ofHeads, each), V: picked(b.V, ofHeads, each), O: picked(b.O, each, ofHeads),
				Up: picked(b.Up, inInner, each), Down: picked(b.Down, each, inInner),
			})
		}
	}
	if stage == c.Stages-1 {
		x.Last, x.Head = w.Last, picked(w.Head, each, each)
	}
	return copyOfShard(x)
}

// wantedAll are all workers' shards as the chapter's words say them.
func wantedAll(w api.Weights, c api.Cut) []api.Shard {
	var all []api.Shard
	for stage := range c.Stages {
		for part := range c.Parts {
			all = append(all, wanted(w, c, stage, part))
		}
	}
	return all
}

// eachCut goes through the shapes and all their right cuts.
func eachCut(f func(s api.Shape, c api.Cut)) {
	for _, s := range shapes() {
		for _, c := range rightCuts(s) {
			f(s, c)
		}
	}
}

// holdTake holds a worker's shard against the one that is wanted.
func holdTake(t *testing.T, w api.Weights, c api.Cut, stage, part int, want api.Shard) {
	t.Helper()
	if got, e := Take(w, c, stage, part); e != api.OK || !sameShard(got, want) {
		t.Errorf("Take of %v, %v, %d, %d: error %d, or another shard", w.Shape, c, stage, part, e)
	}
}

// refuseTake holds a worker's shard that isn't to be had against its error; beside it there is nothing.
func refuseTake(t *testing.T, what string, w api.Weights, c api.Cut, stage, part int, want api.Errno) {
	t.Helper()
	if got, e := Take(w, c, stage, part); e != want || !sameShard(got, api.Shard{}) {
		t.Errorf("%s: Take of %v, %v, %d, %d: error %d, not %d, or a shard", what, w.Shape, c, stage, part, e, want)
	}
}

// refuseAll does the same with all shards.
func refuseAll(t *testing.T, what string, w api.Weights, c api.Cut, want api.Errno) {
	t.Helper()
	if got, e := All(w, c); e != want || len(got) != 0 {
		t.Errorf("%s: All of %v, %v: error %d, not %d, or %d shards", what, w.Shape, c, e, want, len(got))
	}
}

// allOf are all shards of weights that are whole, by a right cut.
func allOf(t *testing.T, w api.Weights, c api.Cut) []api.Shard {
	t.Helper()
	all, e := All(w, c)
	if e != api.OK {
		t.Fatalf("All of %v, %v: error %d", w.Shape, c, e)
	}
	return all
}

func TestP111ShapesOfTheTestsAreRight(t *testing.T) {
	for _, s := range append(shapes(), greatest()) {
		if !weight.Whole(made(s, noughts)) {
			t.Errorf("%v isn't right", s)
		}
	}
	eachCut(func(s api.Shape, c api.Cut) {
		if !slice.Right(s, c) {
			t.Errorf("%v isn't right for %v", c, s)
		}
	})
}

func TestP111TakeIsWhatTheWordsSay(t *testing.T) {
	eachCut(func(s api.Shape, c api.Cut) {
		w := made(s, any8(1))
		for stage := range c.Stages {
			for part := range c.Parts {
				holdTake(t, w, c, stage, part, wanted(w, c, stage, part))
			}
		}
	})
}

func TestP111AllAreTakenByTheirNumbers(t *testing.T) {
	eachCut(func(s api.Shape, c api.Cut) {
		w := made(s, any8(2))
		all := allOf(t, w, c)
		if !sameShards(all, wantedAll(w, c)) {
			t.Errorf("All of %v, %v: other shards", s, c)
		}
		for worker, x := range all {
			if n, ok := slice.Worker(c, x.Stage, x.Part); n != worker || !ok {
				t.Errorf("All of %v, %v: shard %d is of stage %d, part %d", s, c, worker, x.Stage, x.Part)
			}
		}
	})
}

func TestP111TheGreatestWeights(t *testing.T) {
	w := made(greatest(), any8(3))
	for _, c := range []api.Cut{cut(1, 1), cut(4, 16), cut(16, 4), cut(3, 8), cut(16, 1)} {
		all := allOf(t, w, c)
		if !sameShards(all, wantedAll(w, c)) {
			t.Errorf("All of %v, %v: other shards", w.Shape, c)
		}
		if got, e := Stitch(all...); e != api.OK || !sameWeights(got, w) {
			t.Errorf("Stitch of All of %v, %v: error %d, or others", w.Shape, c, e)
		}
	}
}

func TestP111Example(t *testing.T) {
	w := made(example(), noughts)
	for i := range 16 {
		w.Blocks[0].Q.V[i], w.Blocks[0].O.V[i] = int8(i), int8(-i)
	}
	copy(w.Blocks[0].Up.V, []int8{1, 2, 3, 4, 5, 6, 7, 8})
	copy(w.Blocks[0].Down.V, []int8{11, 12, 13, 14, 15, 16, 17, 18})
	for part, want := range []struct{ q, o, up, down []int8 }{
		{[]int8{0, 1, 2, 3, 4, 5, 6, 7}, []int8{0, -1, -4, -5, -8, -9, -12, -13}, []int8{1, 2, 3, 4}, []int8{11, 13, 15, 17}},
		{[]int8{8, 9, 10, 11, 12, 13, 14, 15}, []int8{-2, -3, -6, -7, -10, -11, -14, -15}, []int8{5, 6, 7, 8}, []int8{12, 14, 16, 18}},
	} {
		x, e := Take(w, cut(1, 2), 0, part)
		if e != api.OK || len(x.Blocks) != 1 {
			t.Fatalf("part %d: error %d, or %d blocks", part, e, len(x.Blocks))
		}
		b := x.Blocks[0]
		if b.Q.Rows != 2 || b.Q.Cols != 4 || !slices.Equal(b.Q.V, want.q) || b.O.Rows != 4 || b.O.Cols != 2 || !slices.Equal(b.O.V, want.o) {
			t.Errorf("part %d: Q is %v, O is %v", part, b.Q, b.O)
		}
		if b.Up.Rows != 1 || b.Up.Cols != 4 || !slices.Equal(b.Up.V, want.up) || b.Down.Rows != 4 || b.Down.Cols != 1 || !slices.Equal(b.Down.V, want.down) {
			t.Errorf("part %d: Up is %v, Down is %v", part, b.Up, b.Down)
		}
	}
}

func TestP111OneStageAndOnePartIsTheWhole(t *testing.T) {
	for _, s := range shapes() {
		w := made(s, any8(4))
		want := api.Shard{Shape: s, Cut: cut(1, 1), Embed: w.Embed, Blocks: w.Blocks, Last: w.Last, Head: w.Head}
		holdTake(t, w, cut(1, 1), 0, 0, want)
		if all := allOf(t, w, cut(1, 1)); !sameShards(all, []api.Shard{want}) {
			t.Errorf("All of %v in one: %d shards, or another one", s, len(all))
		}
	}
}

func TestP111TheEndsAreInTheFirstAndTheLastStage(t *testing.T) {
	eachCut(func(s api.Shape, c api.Cut) {
		w := made(s, any8(5))
		for _, x := range allOf(t, w, c) {
			embed, last, head := api.Mat{}, []int8(nil), api.Mat{}
			if x.Stage == 0 {
				embed = w.Embed
			}
			if x.Stage == c.Stages-1 {
				last, head = w.Last, w.Head
			}
			if x.Embed.Rows != embed.Rows || x.Embed.Cols != embed.Cols || !slices.Equal(x.Embed.V, embed.V) {
				t.Errorf("%v, %v, stage %d: Embed is %v", s, c, x.Stage, x.Embed)
			}
			if !slices.Equal(x.Last, last) || x.Head.Rows != head.Rows || x.Head.Cols != head.Cols || !slices.Equal(x.Head.V, head.V) {
				t.Errorf("%v, %v, stage %d: Last is %v, Head is %v", s, c, x.Stage, x.Last, x.Head)
			}
		}
	})
}

func TestP111AsManyStagesAsLayersAndPartsAsHeads(t *testing.T) {
	for _, s := range []api.Shape{example(), of(2, 8, 4, 8, 7, 3), of(16, 8, 4, 4, 3, 2), of(2, 32, 16, 16, 4, 5), of(7, 10, 5, 5, 6, 7)} {
		w, d := made(s, any8(6)), s.Width/s.Heads
		for worker, x := range allOf(t, w, cut(s.Layers, s.Heads)) {
			layer, head := worker/s.Heads, worker%s.Heads
			if len(x.Blocks) != 1 || x.Stage != layer || x.Part != head {
				t.Fatalf("%v: worker %d has %d layers of stage %d, part %d", s, worker, len(x.Blocks), x.Stage, x.Part)
			}
			from, to := head*d*s.Width, (head+1)*d*s.Width
			b, whole := x.Blocks[0], w.Blocks[layer]
			if b.Q.Rows != d || !slices.Equal(b.Q.V, whole.Q.V[from:to]) || !slices.Equal(b.K.V, whole.K.V[from:to]) || !slices.Equal(b.V.V, whole.V.V[from:to]) {
				t.Errorf("%v: layer %d has other rows of head %d", s, layer, head)
			}
			if b.O.Cols != d || !slices.Equal(b.O.V[:d], whole.O.V[head*d:][:d]) {
				t.Errorf("%v: layer %d has other columns of head %d", s, layer, head)
			}
		}
	}
}

// wrongWeights are weights in which just one thing isn't right, by what it is.
func wrongWeights(w api.Weights) map[string]api.Weights {
	all := map[string]api.Weights{}
	turn := func(what string, change func(x *api.Weights)) {
		x := copyOf(w)
		change(&x)
		all[what] = x
	}
	for i, m := range weightMatrices(&w) {
		for what, n := range wrongMatrices(*m) {
			turn(fmt.Sprint("matrix ", i, ": ", what), func(x *api.Weights) { *weightMatrices(x)[i] = n })
		}
	}
	for _, gains := range [][2]int{{0, -1}, {1, 8}, {6, 8}} {
		for _, layer := range []int{0, len(w.Blocks) - 1} {
			at := gains[0] + layer*max(gains[1], 0)
			if gains[1] < 0 {
				at = len(weightLists(&w)) - 2
			}
			turn(fmt.Sprint("a gain less in list ", at), func(x *api.Weights) { l := weightLists(x)[at]; *l = (*l)[1:] })
			turn(fmt.Sprint("a gain more in list ", at), func(x *api.Weights) { l := weightLists(x)[at]; *l = append(*l, 0) })
			turn(fmt.Sprint("no gains in list ", at), func(x *api.Weights) { *weightLists(x)[at] = nil })
		}
	}
	turn("a block less", func(x *api.Weights) { x.Blocks = x.Blocks[1:] })
	turn("a block more", func(x *api.Weights) { x.Blocks = append(x.Blocks, x.Blocks[0]) })
	turn("no blocks", func(x *api.Weights) { x.Blocks = nil })
	turn("a block of nothing", func(x *api.Weights) { x.Blocks[len(x.Blocks)-1] = api.Block{} })
	for i, s := range wrongShapes(w.Shape) {
		turn(fmt.Sprint("wrong shape ", i), func(x *api.Weights) { x.Shape = s })
	}
	// Shapes that are right, but aren't those of the rest.
	turn("another layer in the shape", func(x *api.Weights) { x.Shape.Layers = x.Shape.Layers%16 + 1 })
	turn("another width in the shape", func(x *api.Weights) { x.Shape.Width, x.Shape.Heads = x.Shape.Width%128+2, 1 })
	turn("another inner width in the shape", func(x *api.Weights) { x.Shape.Inner = x.Shape.Inner%256 + 1 })
	turn("another vocabulary in the shape", func(x *api.Weights) { x.Shape.Vocab = x.Shape.Vocab%512 + 1 })
	return all
}

// wrongMatrices are some of other sides than m has, or that aren't right, by what they are.
func wrongMatrices(m api.Mat) map[string]api.Mat {
	all := map[string]api.Mat{}
	for _, off := range [][2]int{{-1, 0}, {1, 0}, {0, -1}, {0, 1}, {1, 1}, {-1, 1}, {1 << 32, 1 << 32}, {math.MaxInt, math.MaxInt}, {-2 * m.Rows, -2 * m.Cols}} {
		n := api.Mat{Rows: m.Rows + off[0], Cols: m.Cols + off[1], V: slices.Clone(m.V)}
		if n.Rows == m.Rows && n.Cols == m.Cols {
			continue
		}
		all[fmt.Sprint(off, " on its sides")] = n
		if n.Rows >= 0 && n.Rows <= 4096 && n.Cols >= 0 && n.Cols <= 4096 {
			n.V = make([]int8, n.Rows*n.Cols)
			all[fmt.Sprint(off, " on its sides, and so many numbers")] = n
		}
	}
	more := m
	more.V = append(slices.Clone(m.V), 0)
	all["a number more"] = more
	if len(m.V) > 0 {
		less, none := m, m
		less.V, none.V = m.V[1:], nil
		all["a number less"], all["no numbers"], all["nothing"] = less, none, api.Mat{}
	}
	if m.Rows != m.Cols {
		all["rows for columns"] = api.Mat{Rows: m.Cols, Cols: m.Rows, V: m.V}
	}
	return all
}

// wrongShapes are shapes that aren't right, out of one that is.
func wrongShapes(s api.Shape) []api.Shape {
	all := []api.Shape{{}, of(-s.Layers, -s.Width, -s.Heads, -s.Inner, -s.Vocab, -s.Places)}
	for at := range 6 {
		for _, n := range []int{0, -1, 1000, 1 << 32, math.MinInt, math.MaxInt} {
			x := s
			*[]*int{&x.Layers, &x.Width, &x.Heads, &x.Inner, &x.Vocab, &x.Places}[at] = n
			all = append(all, x)
		}
	}
	x := s
	x.Heads = s.Width
	return append(all, x)
}

// wrongCuts are none that is right for a shape.
func wrongCuts(s api.Shape) []api.Cut {
	cs := []api.Cut{{}, cut(0, 1), cut(1, 0), cut(s.Layers+1, 1), cut(1, s.Heads+1), cut(1, 2*s.Heads), cut(-1, -1), cut(-s.Layers, 1), cut(1, -1), cut(17, 1), cut(1, 17)}
	for _, n := range far() {
		cs = append(cs, cut(n, 1), cut(1, n), cut(n, n))
	}
	for parts := 1; parts <= s.Heads; parts++ {
		if s.Heads%parts != 0 || s.Inner%parts != 0 {
			cs = append(cs, cut(1, parts), cut(s.Layers, parts))
		}
	}
	return cs
}

func TestP111WeightsThatAreNotWholeComeFirst(t *testing.T) {
	refuseTake(t, "nothing", api.Weights{}, api.Cut{}, -1, -1, api.ErrShape)
	refuseAll(t, "nothing", api.Weights{}, api.Cut{}, api.ErrShape)
	for _, s := range []api.Shape{example(), middle(), of(1, 2, 1, 1, 1, 1), of(2, 8, 4, 8, 7, 3)} {
		for what, w := range wrongWeights(made(s, any8(7))) {
			refuseTake(t, what, w, cut(1, 1), 0, 0, api.ErrShape)
			refuseTake(t, what, w, cut(1, 1), 1, -1, api.ErrShape)
			refuseTake(t, what, w, cut(s.Layers, 1), s.Layers-1, 0, api.ErrShape)
			refuseTake(t, what, w, cut(0, 1), 0, 0, api.ErrShape)
			refuseTake(t, what, w, cut(1, math.MaxInt), math.MaxInt, math.MinInt, api.ErrShape)
			refuseAll(t, what, w, cut(1, 1), api.ErrShape)
			refuseAll(t, what, w, cut(s.Layers, 1), api.ErrShape)
			refuseAll(t, what, w, cut(0, 1), api.ErrShape)
		}
	}
}

func TestP111WrongCutsComeNext(t *testing.T) {
	for _, s := range shapes() {
		w := made(s, any8(8))
		for _, c := range wrongCuts(s) {
			refuseAll(t, "a wrong cut", w, c, api.ErrCut)
			for _, n := range append(far(), 0, 1, c.Stages-1, c.Stages, c.Parts-1, c.Parts) {
				refuseTake(t, "a wrong cut", w, c, 0, n, api.ErrCut)
				refuseTake(t, "a wrong cut", w, c, n, 0, api.ErrCut)
				refuseTake(t, "a wrong cut", w, c, n, n, api.ErrCut)
			}
		}
	}
}

func TestP111PartsThatDivideHeadsOrInnerAlone(t *testing.T) {
	for _, x := range []struct {
		what string
		s    api.Shape
		c    api.Cut
		want api.Errno
	}{
		{"4 divides Heads 4, not Inner 6", middle(), cut(2, 4), api.ErrCut},
		{"3 divides Inner 6, not Heads 4", middle(), cut(2, 3), api.ErrCut},
		{"6 divides Inner 6, not Heads 4", middle(), cut(1, 6), api.ErrCut},
		{"2 divides both", middle(), cut(2, 2), api.OK},
		{"3 divides Heads 6, not Inner 4", of(4, 24, 6, 4, 2, 9), cut(4, 3), api.ErrCut},
		{"4 divides Inner 4, not Heads 6", of(4, 24, 6, 4, 2, 9), cut(4, 4), api.ErrCut},
		{"16 divides Heads 16, and 8 alone Inner 8", of(2, 32, 16, 8, 4, 5), cut(1, 16), api.ErrCut},
		{"8 divides Heads 16 and Inner 8", of(2, 32, 16, 8, 4, 5), cut(1, 8), api.OK},
		{"66 workers", of(11, 12, 6, 6, 1, 1), cut(11, 6), api.ErrCut},
		{"64 workers", of(16, 8, 4, 4, 3, 2), cut(16, 4), api.OK},
	} {
		w := made(x.s, any8(9))
		all, e := All(w, x.c)
		if e != x.want || e != api.OK && len(all) != 0 || e == api.OK && len(all) != x.c.Stages*x.c.Parts {
			t.Errorf("%s: All: error %d and %d shards", x.what, e, len(all))
		}
		if _, e := Take(w, x.c, 0, 0); e != x.want {
			t.Errorf("%s: Take: error %d", x.what, e)
		}
	}
}

func TestP111NoSuchStageOrPart(t *testing.T) {
	eachCut(func(s api.Shape, c api.Cut) {
		w := made(s, noughts)
		for _, n := range append(far(), c.Stages, c.Stages+1, c.Stages*c.Parts) {
			if n < 0 || n >= c.Stages {
				refuseTake(t, "no such stage", w, c, n, 0, api.ErrArg)
				refuseTake(t, "no such stage", w, c, n, c.Parts-1, api.ErrArg)
			}
		}
		for _, n := range append(far(), c.Parts, c.Parts+1, c.Stages*c.Parts) {
			if n < 0 || n >= c.Parts {
				refuseTake(t, "no such part", w, c, 0, n, api.ErrArg)
				refuseTake(t, "no such part", w, c, c.Stages-1, n, api.ErrArg)
			}
		}
		for _, n := range far() {
			refuseTake(t, "neither", w, c, n, n, api.ErrArg)
		}
	})
}

// chapterRight: is a shard right, as the chapter says it? Its sides are held against those of one that is wanted.
func chapterRight(s api.Shard) bool {
	if !weight.Right(s.Shape) || !slices.Contains(rightCuts(s.Shape), s.Cut) || s.Stage < 0 || s.Stage >= s.Cut.Stages || s.Part < 0 || s.Part >= s.Cut.Parts {
		return false
	}
	w := wanted(made(s.Shape, noughts), s.Cut, s.Stage, s.Part)
	return len(s.Blocks) == len(w.Blocks) && slices.EqualFunc(shardMatrices(&s), shardMatrices(&w), func(a, b *api.Mat) bool { return a.Rows == b.Rows && a.Cols == b.Cols }) &&
		slices.EqualFunc(shardLists(&s), shardLists(&w), func(a, b *[]int8) bool { return len(*a) == len(*b) })
}

// wrongShards are shards in which just one thing isn't right, out of one that is, by what it is.
func wrongShards(s api.Shard) map[string]api.Shard {
	all := map[string]api.Shard{}
	turn := func(what string, change func(x *api.Shard)) {
		x := copyOfShard(s)
		change(&x)
		all[what] = x
	}
	for i, m := range shardMatrices(&s) {
		for what, n := range wrongMatrices(*m) {
			turn(fmt.Sprint("matrix ", i, ": ", what), func(x *api.Shard) { *shardMatrices(x)[i] = n })
		}
	}
	wrongRow := func(what string, list func(x *api.Shard) *[]int8) {
		turn("a number more in "+what, func(x *api.Shard) { *list(x) = append(*list(x), 0) })
		if n := len(*list(&s)); n > 0 {
			turn("a number less in "+what, func(x *api.Shard) { *list(x) = (*list(x))[:n-1] })
			turn("no numbers in "+what, func(x *api.Shard) { *list(x) = nil })
		}
	}
	wrongRow("Last", func(x *api.Shard) *[]int8 { return &x.Last })
	for i := range s.Blocks {
		wrongRow(fmt.Sprint("First of block ", i), func(x *api.Shard) *[]int8 { return &x.Blocks[i].First })
		wrongRow(fmt.Sprint("Second of block ", i), func(x *api.Shard) *[]int8 { return &x.Blocks[i].Second })
		turn(fmt.Sprint("nothing in block ", i), func(x *api.Shard) { x.Blocks[i] = api.Block{} })
	}
	turn("a block less", func(x *api.Shard) { x.Blocks = x.Blocks[1:] })
	turn("a block more", func(x *api.Shard) { x.Blocks = append(x.Blocks, x.Blocks[0]) })
	turn("a block of nothing more", func(x *api.Shard) { x.Blocks = append(x.Blocks, api.Block{}) })
	turn("no blocks", func(x *api.Shard) { x.Blocks = nil })
	for i, other := range wrongShapes(s.Shape) {
		turn(fmt.Sprint("wrong shape ", i), func(x *api.Shard) { x.Shape = other })
	}
	for i, other := range wrongCuts(s.Shape) {
		turn(fmt.Sprint("wrong cut ", i), func(x *api.Shard) { x.Cut = other })
	}
	for _, n := range append(far(), s.Cut.Stages) {
		turn(fmt.Sprint("stage ", n), func(x *api.Shard) { x.Stage = n })
	}
	for _, n := range append(far(), s.Cut.Parts) {
		turn(fmt.Sprint("part ", n), func(x *api.Shard) { x.Part = n })
	}
	return all
}

// wrongOf are shapes and cuts whose shards are made wrong in each way.
func wrongOf() map[api.Shape][]api.Cut {
	return map[api.Shape][]api.Cut{
		example(): {cut(1, 1), cut(1, 2)}, middle(): {cut(1, 2), cut(3, 2), cut(5, 1)}, of(2, 8, 4, 8, 7, 3): {cut(2, 4)}, of(1, 2, 1, 1, 1, 1): {cut(1, 1)},
	}
}

func TestP112RightOfRightOnes(t *testing.T) {
	if !Right() {
		t.Error("Right(): false")
	}
	var some []api.Shard
	eachCut(func(s api.Shape, c api.Cut) {
		// Two models' shards, made without the package: neither is held against the other.
		all := append(wantedAll(made(s, any8(10)), c), wantedAll(made(s, noughts), c)...)
		if !Right(all...) {
			t.Errorf("Right of %v, %v: false", s, c)
		}
		for _, x := range all {
			if !Right(x) || !Right(x, x) {
				t.Errorf("Right of %v, %v, %d, %d: false", s, c, x.Stage, x.Part)
			}
		}
		some = append(some, all[len(all)-1])
	})
	if !Right(some...) {
		t.Error("Right of many models' shards: false")
	}
}

func TestP112RightOfWrongOnes(t *testing.T) {
	if Right(api.Shard{}) {
		t.Error("Right of nothing: true")
	}
	good := wanted(made(example(), any8(11)), cut(1, 2), 0, 1)
	for s, cs := range wrongOf() {
		for _, c := range cs {
			for _, x := range wantedAll(made(s, any8(12)), c) {
				for what, wrong := range wrongShards(x) {
					if Right(wrong) || Right(good, wrong) || Right(wrong, good) || Right(good, wrong, good) {
						t.Errorf("Right of %v, %v, %d, %d: true: %s", s, c, x.Stage, x.Part, what)
					}
					if n := Count(wrong); n != 0 {
						t.Errorf("Count of %v, %v, %d, %d: %d: %s", s, c, x.Stage, x.Part, n, what)
					}
				}
			}
		}
	}
}

func TestP112EndsAreNowhereElse(t *testing.T) {
	w := made(middle(), any8(13))
	for _, x := range wantedAll(w, cut(3, 2)) {
		for what, change := range map[string]func(x *api.Shard){
			"Embed":                func(x *api.Shard) { x.Embed = w.Embed },
			"Last":                 func(x *api.Shard) { x.Last = w.Last },
			"Head":                 func(x *api.Shard) { x.Head = w.Head },
			"Last and Head":        func(x *api.Shard) { x.Last, x.Head = w.Last, w.Head },
			"all of them":          func(x *api.Shard) { x.Embed, x.Last, x.Head = w.Embed, w.Last, w.Head },
			"no Embed":             func(x *api.Shard) { x.Embed = api.Mat{} },
			"no Last":              func(x *api.Shard) { x.Last = nil },
			"no Head":              func(x *api.Shard) { x.Head = api.Mat{} },
			"none of them":         func(x *api.Shard) { x.Embed, x.Last, x.Head = api.Mat{}, nil, api.Mat{} },
			"Embed of no rows":     func(x *api.Shard) { x.Embed = api.Mat{Cols: 8} },
			"Embed of no columns":  func(x *api.Shard) { x.Embed = api.Mat{Rows: 3} },
			"Head of no rows":      func(x *api.Shard) { x.Head = api.Mat{Cols: 8} },
			"Head of no columns":   func(x *api.Shard) { x.Head = api.Mat{Rows: 3} },
			"Embed for Head":       func(x *api.Shard) { x.Embed, x.Head = x.Head, x.Embed },
			"the next stage":       func(x *api.Shard) { x.Stage++ },
			"the stage ahead":      func(x *api.Shard) { x.Stage-- },
			"the other part":       func(x *api.Shard) { x.Part = 1 - x.Part },
			"two stages":           func(x *api.Shard) { x.Cut.Stages = 2 },
			"one part":             func(x *api.Shard) { x.Cut.Parts = 1 },
			"another vocabulary":   func(x *api.Shard) { x.Shape.Vocab++ },
			"other places":         func(x *api.Shard) { x.Shape.Places++ },
			"fewer heads":          func(x *api.Shard) { x.Shape.Heads = 2 },
			"another inner width":  func(x *api.Shard) { x.Shape.Inner = 8 },
			"another layer":        func(x *api.Shard) { x.Shape.Layers++ },
			"lists that are empty": func(x *api.Shard) { x.Embed.V, x.Last = append([]int8{}, x.Embed.V...), append([]int8{}, x.Last...) },
		} {
			y := copyOfShard(x)
			change(&y)
			if Right(y) != chapterRight(y) {
				t.Errorf("Right of stage %d, part %d: %t: %s", x.Stage, x.Part, Right(y), what)
			}
		}
	}
}

// mixed turns some of a shard's things into ones of another shard's.
func mixed(next func() uint64, s, other api.Shard) api.Shard {
	s = copyOfShard(s)
	for range next() % 4 {
		switch next() % 10 {
		case 0:
			s.Shape = other.Shape
		case 1:
			s.Cut = other.Cut
		case 2:
			s.Stage = other.Stage
		case 3:
			s.Part = other.Part
		case 4:
			s.Embed = other.Embed
		case 5:
			s.Blocks = other.Blocks
		case 6:
			s.Last, s.Head = other.Last, other.Head
		case 7:
			s.Blocks[0] = other.Blocks[0]
		case 8:
			s.Blocks[0].O, s.Blocks[0].Q = s.Blocks[0].Q, s.Blocks[0].O
		case 9:
			s.Stage, s.Part = s.Part, s.Stage
		}
		s = copyOfShard(s)
	}
	return s
}

func TestP112RightOfMixedOnes(t *testing.T) {
	var all []api.Shard
	for _, s := range []api.Shape{example(), middle(), of(3, 8, 4, 6, 3, 4), of(5, 8, 4, 6, 3, 5), of(5, 8, 2, 2, 3, 4), of(4, 8, 4, 4, 5, 4)} {
		for _, c := range rightCuts(s) {
			all = append(all, wantedAll(made(s, any8(14)), c)...)
		}
	}
	next, right := steady(15), 0
	for range 20000 {
		x := mixed(next, all[next()%uint64(len(all))], all[next()%uint64(len(all))])
		got := Right(x)
		if got != chapterRight(x) {
			t.Fatalf("Right of %v, %v, %d, %d: %t", x.Shape, x.Cut, x.Stage, x.Part, got)
		}
		if got {
			right++
		}
		if got != (Count(x) > 0) {
			t.Fatalf("Count of %v, %v, %d, %d: %d", x.Shape, x.Cut, x.Stage, x.Part, Count(x))
		}
	}
	if right < 3000 || right > 17000 {
		t.Errorf("%d of the mixed ones are right", right)
	}
}

func TestP112CountIsOfAllNumbers(t *testing.T) {
	if n := Count(); n != 0 {
		t.Errorf("Count(): %d", n)
	}
	eachCut(func(s api.Shape, c api.Cut) {
		sum, all := 0, wantedAll(made(s, any8(16)), c)
		for _, x := range all {
			n := 0
			for _, l := range shardLists(&x) {
				n += len(*l)
			}
			if got := Count(x); got != n {
				t.Errorf("Count of %v, %v, %d, %d: %d, not %d", s, c, x.Stage, x.Part, got, n)
			}
			if got := Count(x, x, x); got != 3*n {
				t.Errorf("Count of one three times: %d, not %d", got, 3*n)
			}
			sum += n
		}
		if got := Count(all...); got != sum {
			t.Errorf("Count of %v, %v: %d, not %d", s, c, got, sum)
		}
		wrong := copyOfShards(all)
		for _, i := range []int{0, len(all) / 2, len(all) - 1} {
			wrong[i].Blocks = nil
			if got := Count(wrong...); got != 0 {
				t.Errorf("Count of %v, %v, where shard %d isn't right: %d", s, c, i, got)
			}
			wrong[i] = all[i]
		}
	})
}

func TestP112CountOfExamples(t *testing.T) {
	w := made(example(), any8(17))
	// Embed and Head 12 each, Last, First and Second 4 each; of Q, K, V and O 8 each, of Up and Down 4 each.
	for part := range 2 {
		if n := Count(wanted(w, cut(1, 2), 0, part)); n != 24+12+32+8 {
			t.Errorf("part %d has %d", part, n)
		}
	}
	if n := Count(wantedAll(w, cut(1, 1))...); n != weight.Count(example()) || n != 24+12+64+16 {
		t.Errorf("one part has %d", n)
	}
}

// holdStitch holds stitched weights against those that are wanted.
func holdStitch(t *testing.T, what string, want api.Weights, ss ...api.Shard) {
	t.Helper()
	if got, e := Stitch(ss...); e != api.OK || !sameWeights(got, want) {
		t.Errorf("%s: Stitch of %v: error %d, or others", what, want.Shape, e)
	}
}

// refuseStitch holds shards that can't be stitched against their error; beside it there is nothing.
func refuseStitch(t *testing.T, what string, want api.Errno, ss ...api.Shard) {
	t.Helper()
	if got, e := Stitch(ss...); e != want || !sameWeights(got, api.Weights{}) {
		t.Errorf("%s: Stitch of %d: error %d, not %d, or weights", what, len(ss), e, want)
	}
}

// orders are some of a list's, all of a short one's.
func orders(ss []api.Shard) [][]api.Shard {
	if len(ss) < 2 {
		return [][]api.Shard{ss}
	}
	var all [][]api.Shard
	if len(ss) <= 4 {
		for i := range ss {
			rest := append(slices.Clone(ss[:i]), ss[i+1:]...)
			for _, o := range orders(rest) {
				all = append(all, append(o, ss[i]))
			}
		}
		return all
	}
	back := slices.Clone(ss)
	slices.Reverse(back)
	all = append(all, ss, back, append(slices.Clone(ss[1:]), ss[0]))
	next, shuffled := steady(18), slices.Clone(ss)
	for i := range shuffled {
		k := int(next()%uint64(i+1)) % (i + 1)
		shuffled[i], shuffled[k] = shuffled[k], shuffled[i]
	}
	return append(all, shuffled)
}

func TestP113StitchOfAllIsTheWeights(t *testing.T) {
	eachCut(func(s api.Shape, c api.Cut) {
		w := made(s, any8(19))
		all := allOf(t, w, c)
		holdStitch(t, "all", w, all...)
		for _, o := range orders(all) {
			holdStitch(t, "another order", w, o...)
		}
	})
}

func TestP113StitchOfAllNumbersOf8Bits(t *testing.T) {
	// Each number stands in each matrix: none is another one when it was made wide.
	n := int8(0)
	w := made(of(1, 16, 2, 16, 16, 1), func() int8 { n++; return n })
	holdStitch(t, "all numbers", w, wantedAll(w, cut(1, 2))...)
	least := made(middle(), func() int8 { return -128 })
	holdStitch(t, "the least number", least, wantedAll(least, cut(5, 2))...)
	most := made(middle(), func() int8 { return 127 })
	holdStitch(t, "the greatest number", most, wantedAll(most, cut(2, 2))...)
}

// found is the cell of a layer's matrix that the shards have: next in turn of the part that has it.
func found(parts []api.Mat, rows, cols int, owner func(r, c int) int) api.Mat {
	m, at := api.Mat{Rows: rows, Cols: cols}, make([]int, len(parts))
	for r := range rows {
		for c := range cols {
			part := owner(r, c)
			m.V = append(m.V, parts[part].V[at[part]])
			at[part]++
		}
	}
	return m
}

// wantedWhole are the weights whose shards' blocks they are, as the chapter's words say them; the shards are in the workers' order.
func wantedWhole(all []api.Shard) api.Weights {
	s, c := all[0].Shape, all[0].Cut
	ends := all[(c.Stages-1)*c.Parts]
	w := api.Weights{Shape: s, Embed: all[0].Embed, Last: ends.Last, Head: ends.Head}
	inHead, inInner := s.Width/c.Parts, s.Inner/c.Parts
	for stage := range c.Stages {
		parts := all[stage*c.Parts:][:c.Parts]
		for i, b := range parts[0].Blocks {
			mats := func(at int) []api.Mat {
				var ms []api.Mat
				for _, p := range parts {
					ms = append(ms, *blockMatrices(&p.Blocks[i])[at])
				}
				return ms
			}
			byRow := func(r, _ int) int { return r / inHead }
			w.Blocks = append(w.Blocks, api.Block{
				First: b.First, Second: b.Second,
				Q: found(mats(0), s.Width, s.Width, byRow), K: found(mats(1), s.Width, s.Width, byRow), V: found(mats(2), s.Width, s.Width, byRow),
				O:    found(mats(3), s.Width, s.Width, func(_, c int) int { return c / inHead }),
				Up:   found(mats(4), s.Inner, s.Width, func(r, _ int) int { return r / inInner }),
				Down: found(mats(5), s.Width, s.Inner, func(_, c int) int { return c / inInner }),
			})
		}
	}
	return copyOf(w)
}

func TestP113WhatPartsHaveTwiceIsThatOfPart0(t *testing.T) {
	eachCut(func(s api.Shape, c api.Cut) {
		w, next := made(s, any8(20)), any8(21)
		all := wantedAll(w, c)
		// Each shard has numbers of its own: no two parts have the same First, Second, Embed, Last or Head.
		for i := range all {
			for _, l := range shardLists(&all[i]) {
				for k := range *l {
					(*l)[k] = next()
				}
			}
		}
		for _, o := range orders(all) {
			holdStitch(t, "numbers of their own", wantedWhole(all), o...)
		}
		all = wantedAll(w, c)
		for i, x := range all {
			for k, l := range shardLists(&all[i]) {
				// The lists that all parts have: Embed's, the first and the sixth of each block, Last, Head's.
				if whole := k == 0 || k > 8*len(x.Blocks) || k%8 == 1 || k%8 == 6; x.Part > 0 && whole {
					for j := range *l {
						(*l)[j]++
					}
				}
			}
		}
		holdStitch(t, "other parts", w, all...)
	})
}

func TestP113EmptyAndNilAreOne(t *testing.T) {
	w := made(middle(), any8(22))
	all := wantedAll(w, cut(3, 2))
	for i := range all {
		for _, l := range shardLists(&all[i]) {
			*l = append([]int8{}, *l...)
		}
	}
	holdStitch(t, "empty lists", w, all...)
}

func TestP113NoShardsOrWrongOnes(t *testing.T) {
	refuseStitch(t, "none", api.ErrShape)
	refuseStitch(t, "none", api.ErrShape, []api.Shard{}...)
	refuseStitch(t, "nothing", api.ErrShape, api.Shard{})
	for s, cs := range wrongOf() {
		for _, c := range cs {
			all := wantedAll(made(s, any8(23)), c)
			for i, x := range all {
				for what, wrong := range wrongShards(x) {
					ss := slices.Clone(all)
					ss[i] = wrong
					refuseStitch(t, what, api.ErrShape, ss...)
				}
			}
		}
	}
}

func TestP113ShardsOfOtherShapesAndCuts(t *testing.T) {
	w, c := made(middle(), any8(24)), cut(3, 2)
	all := wantedAll(w, c)
	for what, s := range map[string]api.Shape{
		"layers": of(6, 8, 4, 6, 3, 4), "width": of(5, 16, 4, 6, 3, 4), "heads": of(5, 8, 2, 6, 3, 4), "inner width": of(5, 8, 4, 2, 3, 4), "vocabulary": of(5, 8, 4, 6, 2, 4), "places": of(5, 8, 4, 6, 3, 5),
	} {
		others := wantedAll(made(s, any8(24)), c)
		for i := range all {
			ss := slices.Clone(all)
			ss[i] = others[i]
			refuseStitch(t, "another "+what, api.ErrArg, ss...)
			refuseStitch(t, "another "+what+", and many are missing", api.ErrArg, others[i], all[0])
			refuseStitch(t, "another "+what+", and one twice", api.ErrArg, append(ss, all[i], ss[i])...)
		}
		refuseStitch(t, "two models", api.ErrArg, append(slices.Clone(all), others...)...)
		holdStitch(t, "the other one alone", made(s, any8(24)), others...)
	}
	for _, other := range []api.Cut{cut(1, 1), cut(2, 2), cut(3, 1), cut(5, 2), cut(4, 1)} {
		others := wantedAll(w, other)
		for i := range all {
			ss := slices.Clone(all)
			ss[i] = others[len(others)-1]
			refuseStitch(t, "another cut", api.ErrArg, ss...)
			refuseStitch(t, "another cut, and many are missing", api.ErrArg, others[0], all[i])
		}
		refuseStitch(t, "two cuts", api.ErrArg, append(slices.Clone(others), all...)...)
		holdStitch(t, "the other one alone", w, others...)
	}
}

func TestP113MissingAndTwice(t *testing.T) {
	eachCut(func(s api.Shape, c api.Cut) {
		all := wantedAll(made(s, any8(25)), c)
		if len(all) > 24 {
			return
		}
		for i := range all {
			rest := append(slices.Clone(all[:i]), all[i+1:]...)
			if len(rest) > 0 {
				refuseStitch(t, "one missing", api.ErrGap, rest...)
				refuseStitch(t, "one alone", api.ErrGap, all[i])
				refuseStitch(t, "one missing, another one twice", api.ErrGap, append(rest, rest[0])...)
				refuseStitch(t, "one missing, another one twice", api.ErrGap, append([]api.Shard{rest[len(rest)-1]}, rest...)...)
			}
			refuseStitch(t, "one twice", api.ErrGap, append(slices.Clone(all), all[i])...)
			refuseStitch(t, "one twice", api.ErrGap, append([]api.Shard{all[i]}, all...)...)
			refuseStitch(t, "one as often as there are workers, and one", api.ErrGap, slices.Repeat(all[i:i+1], len(all)+1)...)
		}
		refuseStitch(t, "all twice", api.ErrGap, append(slices.Clone(all), all...)...)
	})
}

func TestP113SeveralErrors(t *testing.T) {
	w, v := made(middle(), any8(26)), made(of(5, 8, 4, 6, 3, 5), any8(26))
	all, others := wantedAll(w, cut(3, 2)), wantedAll(v, cut(3, 2))
	wrong := copyOfShard(all[3])
	wrong.Blocks[0].Down.Cols++
	refuseStitch(t, "one isn't right, one is another model's, one is missing", api.ErrShape, all[0], others[1], all[2], wrong, all[4])
	refuseStitch(t, "one is another model's, the last isn't right", api.ErrShape, all[0], others[1], all[2], all[3], all[4], api.Shard{})
	refuseStitch(t, "the first isn't right, one is missing", api.ErrShape, append([]api.Shard{wrong}, all[:2]...)...)
	refuseStitch(t, "one isn't right, one is twice", api.ErrShape, append(slices.Clone(all), wrong, all[0])...)
	refuseStitch(t, "one is another model's, one is missing", api.ErrArg, append(slices.Clone(all[:4]), others[5])...)
	refuseStitch(t, "one is another model's, one is twice", api.ErrArg, append(slices.Clone(all), all[0], others[5])...)
}

func TestP114EachNumberOnceOrOnceForEachPart(t *testing.T) {
	for _, s := range []api.Shape{example(), of(3, 8, 4, 6, 2, 4), of(2, 8, 4, 8, 1, 3)} {
		for _, c := range rightCuts(s) {
			w := made(s, noughts)
			for k, l := range weightLists(&w) {
				want := 1
				if k == 0 || k > 8*s.Layers || k%8 == 1 || k%8 == 6 {
					want = c.Parts
				}
				for i := range *l {
					(*l)[i] = 1
					ones := 0
					for _, x := range allOf(t, w, c) {
						for _, m := range shardLists(&x) {
							for _, n := range *m {
								ones += int(n)
							}
						}
					}
					if ones != want {
						t.Fatalf("%v, %v: number %d of list %d is there %d times, not %d", s, c, i, k, ones, want)
					}
					(*l)[i] = 0
				}
			}
		}
	}
}

func TestP114CountOfAllTogether(t *testing.T) {
	eachCut(func(s api.Shape, c api.Cut) {
		once := s.Layers * (4*s.Width*s.Width + 2*s.Inner*s.Width)
		forEachPart := 2*s.Vocab*s.Width + s.Width + 2*s.Layers*s.Width
		if n := Count(allOf(t, made(s, any8(27)), c)...); n != once+c.Parts*forEachPart {
			t.Errorf("%v, %v: %d numbers, not %d and %d times %d", s, c, n, once, c.Parts, forEachPart)
		}
		if once+forEachPart != weight.Count(s) {
			t.Errorf("%v: %d numbers", s, once+forEachPart)
		}
	})
}

// fence gives each list spare room, and answers all of it.
func fence(lists []*[]int8) [][]int8 {
	var all [][]int8
	for _, l := range lists {
		n := len(*l)
		whole := append(slices.Clone(*l), 11, 22, 33, 44, 55)
		*l = whole[:n]
		all = append(all, whole)
	}
	return all
}

// fenceShards gives all lists of shards spare room, the lists of blocks too, and answers that of the numbers.
func fenceShards(ss []api.Shard) [][]int8 {
	var all [][]int8
	for i := range ss {
		ss[i].Blocks = append(make([]api.Block, 0, len(ss[i].Blocks)+2), ss[i].Blocks...)
		all = append(all, fence(shardLists(&ss[i]))...)
	}
	return all
}

// cloned are copies of lists.
func cloned(lists [][]int8) [][]int8 {
	var all [][]int8
	for _, l := range lists {
		all = append(all, slices.Clone(l))
	}
	return all
}

// sameNumbers: are the lists the same?
func sameNumbers(a, b [][]int8) bool { return slices.EqualFunc(a, b, slices.Equal) }

// spoil changes all lists, with their spare room.
func spoil(lists []*[]int8) {
	for _, l := range lists {
		whole := (*l)[:cap(*l)]
		for i := range whole {
			whole[i] += 3
		}
	}
}

// spoilShard changes all that a shard has.
func spoilShard(s *api.Shard) {
	spoil(shardLists(s))
	for i := range s.Blocks[:cap(s.Blocks)] {
		s.Blocks[:cap(s.Blocks)][i] = api.Block{}
	}
}

// spoilWeights changes all that weights have.
func spoilWeights(w *api.Weights) {
	spoil(weightLists(w))
	for i := range w.Blocks[:cap(w.Blocks)] {
		w.Blocks[:cap(w.Blocks)][i] = api.Block{}
	}
}

func TestP114ShardsAreNewMemory(t *testing.T) {
	eachCut(func(s api.Shape, c api.Cut) {
		w := made(s, any8(28))
		was, want := copyOf(w), wantedAll(w, c)
		w.Blocks = append(make([]api.Block, 0, len(w.Blocks)+2), w.Blocks...)
		lists := fence(weightLists(&w))
		kept := cloned(lists)
		first, second := allOf(t, w, c), allOf(t, w, c)
		one, e := Take(w, c, c.Stages-1, 0)
		for i := range second {
			spoilShard(&second[i])
		}
		if !sameShards(first, want) || !sameWeights(w, was) || !sameNumbers(lists, kept) {
			t.Errorf("%v, %v: a change of an answer changed another, or the weights", s, c)
		}
		if !sameShards(allOf(t, w, c), want) || e != api.OK || !sameShard(one, want[len(want)-c.Parts]) {
			t.Errorf("%v, %v: a change of an answer changed another one", s, c)
		}
		spoilWeights(&w)
		if !sameShards(first, want) || !sameShard(one, want[len(want)-c.Parts]) {
			t.Errorf("%v, %v: a change of the weights changed an answer", s, c)
		}
	})
}

func TestP114ShardsOfOneAnswerShareNothing(t *testing.T) {
	eachCut(func(s api.Shape, c api.Cut) {
		want := wantedAll(made(s, any8(29)), c)
		all := allOf(t, made(s, any8(29)), c)
		for i := range all {
			spoilShard(&all[i])
			if !sameShards(all[i+1:], want[i+1:]) {
				t.Fatalf("%v, %v: a change of shard %d changed another", s, c, i)
			}
		}
	})
}

// noneShared: is each of the lists changed by a change of itself alone, its spare room included?
func noneShared(lists []*[]int8) bool {
	for i, l := range lists {
		var others [][]int8
		for k, m := range lists {
			if k != i {
				others = append(others, *m)
			}
		}
		kept := cloned(others)
		spoil([]*[]int8{l})
		if !sameNumbers(others, kept) {
			return false
		}
	}
	return true
}

func TestP114ListsOfOneAnswerShareNothing(t *testing.T) {
	for _, s := range []api.Shape{example(), middle(), of(2, 8, 4, 8, 7, 3)} {
		for _, c := range rightCuts(s) {
			// All lists that are as long stand in one place, ahead of the call.
			w := made(s, any8(30))
			w.Head = w.Embed
			for i := range w.Blocks {
				b := &w.Blocks[i]
				b.First, b.Second, b.K, b.V, b.O = w.Last, w.Last, b.Q, b.Q, b.Q
			}
			all := allOf(t, w, c)
			stitched, e := Stitch(all...)
			if e != api.OK || !noneShared(weightLists(&stitched)) {
				t.Errorf("%v, %v: error %d, or lists of stitched weights share numbers", s, c, e)
			}
			var lists []*[]int8
			for i := range all {
				lists = append(lists, shardLists(&all[i])...)
			}
			if !noneShared(lists) {
				t.Errorf("%v, %v: lists of shards share numbers", s, c)
			}
			one, _ := Take(w, c, 0, 0)
			if !noneShared(shardLists(&one)) {
				t.Errorf("%v, %v: lists of one shard share numbers", s, c)
			}
		}
	}
}

func TestP114StitchedWeightsAreNewMemory(t *testing.T) {
	eachCut(func(s api.Shape, c api.Cut) {
		w := made(s, any8(31))
		all := wantedAll(w, c)
		was := copyOfShards(all)
		lists := fenceShards(all)
		kept, room := cloned(lists), append(slices.Clone(all), api.Shard{Stage: 77})
		handed := room[:len(all)]
		first, e := Stitch(handed...)
		second, f := Stitch(handed...)
		spoilWeights(&second)
		if e != api.OK || f != api.OK || !sameWeights(first, w) || !sameShards(all, was) || !sameNumbers(lists, kept) {
			t.Errorf("%v, %v: error %d, or a change of an answer changed another, or the shards", s, c, e)
		}
		if !sameShards(handed, was) || room[len(all)].Stage != 77 {
			t.Errorf("%v, %v: the list that was handed in is another", s, c)
		}
		holdStitch(t, "the next one", w, handed...)
		for i := range all {
			spoilShard(&all[i])
			handed[i] = api.Shard{}
		}
		if !sameWeights(first, w) {
			t.Errorf("%v, %v: a change of the shards changed an answer", s, c)
		}
	})
}

func TestP114AskingChangesNothing(t *testing.T) {
	eachCut(func(s api.Shape, c api.Cut) {
		all := wantedAll(made(s, any8(32)), c)
		was := copyOfShards(all)
		lists := fenceShards(all)
		kept := cloned(lists)
		Right(all...)
		Count(all...)
		Stitch(all[1:]...)
		Stitch(append(slices.Clone(all), all[0])...)
		if !sameShards(all, was) || !sameNumbers(lists, kept) {
			t.Errorf("%v, %v: shards that were asked for are others", s, c)
		}
	})
}

func TestP114WhatIsRefusedIsNotChanged(t *testing.T) {
	for what, w := range wrongWeights(made(example(), any8(33))) {
		was := copyOf(w)
		Take(w, cut(1, 2), 0, 0)
		All(w, cut(1, 1))
		if !sameWeights(w, was) {
			t.Errorf("%s: the weights are others", what)
		}
	}
	for what, x := range wrongShards(wanted(made(example(), any8(34)), cut(1, 2), 0, 1)) {
		was := copyOfShard(x)
		Right(x)
		Count(x)
		Stitch(x)
		if !sameShard(x, was) {
			t.Errorf("%s: the shard is another", what)
		}
	}
}

func TestP114NothingIsKept(t *testing.T) {
	// Calls of others between change no answers.
	v := made(example(), any8(35))
	eachCut(func(s api.Shape, c api.Cut) {
		w := made(s, any8(36))
		want := wantedAll(w, c)
		All(v, cut(1, 2))
		Take(v, cut(1, 2), 0, 1)
		Take(w, cut(0, 0), 0, 0)
		Stitch(wantedAll(v, cut(1, 2))...)
		Stitch(want[:len(want)-1]...)
		if !sameShards(allOf(t, w, c), want) {
			t.Errorf("%v, %v: other shards behind other calls", s, c)
		}
		holdStitch(t, "behind other calls", w, want...)
	})
}

// takesAndMakes are all calls, of arguments that needn't be right.
func takesAndMakes(w api.Weights, c api.Cut, stage, part int, ss ...api.Shard) {
	Take(w, c, stage, part)
	All(w, c)
	Right(ss...)
	Count(ss...)
	Stitch(ss...)
}

func TestP114NoCallPanics(t *testing.T) {
	ends := append(far(), 0, 1, 2)
	for _, n := range ends {
		for _, m := range ends {
			odd := of(n, m, n, m, n, m)
			huge := api.Mat{Rows: n, Cols: m}
			b := api.Block{Q: huge, K: huge, V: huge, O: huge, Up: huge, Down: huge}
			x := api.Shard{Shape: odd, Cut: cut(n, m), Stage: m, Part: n, Embed: huge, Blocks: []api.Block{b}, Head: huge}
			y := x
			y.Shape = example()
			takesAndMakes(api.Weights{Shape: odd, Embed: huge, Blocks: []api.Block{b}, Head: huge}, cut(n, m), m, n, x)
			takesAndMakes(api.Weights{Shape: example(), Embed: huge, Blocks: []api.Block{b}, Head: huge}, cut(1, 2), m, n, y, x)
			y.Cut, y.Stage, y.Part = cut(1, 2), 0, 0
			takesAndMakes(made(example(), noughts), cut(n, m), m, n, y)
		}
	}
}
