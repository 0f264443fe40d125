package model

import (
	"fmt"
	"math"
	"slices"
	"testing"

	"peloton/api"
	"peloton/norm"
	"peloton/rope"
	"peloton/round"
	"peloton/weight"
)

// steady answers numbers by a fixed rule, so that a test is the same each time.
func steady(seed uint64) func() uint64 {
	return func() uint64 {
		seed = seed*6364136223846793005 + 1442695040888963407
		return seed ^ seed>>29
	}
}

// of is a shape of the given numbers.
func of(layers, width, heads, inner, vocab, places int) api.Shape {
	return api.Shape{Layers: layers, Width: width, Heads: heads, Inner: inner, Vocab: vocab, Places: places}
}

// shapes are some that are right: of one head and several, one layer and several, one token and many.
func shapes() []api.Shape {
	return []api.Shape{
		of(1, 2, 1, 1, 1, 1), of(1, 4, 1, 3, 5, 8), of(1, 4, 2, 3, 5, 8), of(2, 8, 2, 6, 7, 9), of(3, 12, 3, 7, 11, 17), of(2, 12, 2, 5, 2, 6),
		of(16, 4, 2, 3, 5, 7), of(2, 32, 16, 4, 9, 12), of(1, 128, 1, 9, 6, 5), of(1, 10, 5, 256, 4, 5), of(1, 6, 3, 2, 512, 30), of(1, 2, 1, 1, 3, 256),
	}
}

// listsOf points at all lists of weights.
func listsOf(w *api.Weights) []*[]int8 {
	all := []*[]int8{&w.Embed.V, &w.Last, &w.Head.V}
	for i := range w.Blocks {
		b := &w.Blocks[i]
		all = append(all, &b.First, &b.Second, &b.Q.V, &b.K.V, &b.V.V, &b.O.V, &b.Up.V, &b.Down.V)
	}
	return all
}

// matricesOf points at all matrices of weights.
func matricesOf(w *api.Weights) []*api.Mat {
	all := []*api.Mat{&w.Embed, &w.Head}
	for i := range w.Blocks {
		b := &w.Blocks[i]
		all = append(all, &b.Q, &b.K, &b.V, &b.O, &b.Up, &b.Down)
	}
	return all
}

// filled are weights of a shape, each number of which next answers.
func filled(t *testing.T, s api.Shape, next func() int8) api.Weights {
	t.Helper()
	w, e := weight.Grow(s, 1)
	if e != api.OK {
		t.Fatalf("Grow of %v: %v", s, e)
	}
	for _, l := range listsOf(&w) {
		for i := range *l {
			(*l)[i] = next()
		}
	}
	return w
}

// kinds are weights of a shape: grown ones, ones of any numbers, ones of the ends alone, and noughts.
func kinds(t *testing.T, s api.Shape) []api.Weights {
	t.Helper()
	grown, _ := weight.Grow(s, 42)
	other, _ := weight.Grow(s, 7)
	next := steady(9)
	return []api.Weights{
		grown, other,
		filled(t, s, func() int8 { return int8(next() >> 16) }),
		filled(t, s, func() int8 { return [2]int8{-128, 127}[next()>>16%2] }),
		filled(t, s, func() int8 { return -128 }),
		filled(t, s, func() int8 { return 0 }),
	}
}

// someTokens are n tokens by next; 0 and the last one of the vocabulary are the first ones.
func someTokens(next func() uint64, s api.Shape, n int) []int {
	tokens := make([]int, n)
	for i := range tokens {
		tokens[i] = [2]int{0, s.Vocab - 1}[i%2]
		if i >= 2 {
			tokens[i] = int(next() >> 16 % uint64(s.Vocab))
		}
	}
	return tokens
}

// model is one of whole weights.
func model(t *testing.T, w api.Weights) *Model {
	t.Helper()
	m, e := New(w)
	if m == nil || e != api.OK {
		t.Fatalf("New of whole weights of %v: %v", w.Shape, e)
	}
	return m
}

// grown is a model of a shape and a seed.
func grown(t *testing.T, s api.Shape, seed uint64) *Model {
	t.Helper()
	w, e := weight.Grow(s, seed)
	if e != api.OK {
		t.Fatalf("Grow of %v: %v", s, e)
	}
	return model(t, w)
}

// fed are the weights behind tokens that are fed.
func fed(t *testing.T, r *Run, tokens ...int) []int32 {
	t.Helper()
	x, e := r.Feed(tokens...)
	if e != api.OK {
		t.Fatalf("Feed of %d at place %d: %v", tokens, r.Place(), e)
	}
	return x
}

// reckoned is what the chapter says of tokens: the weights behind each of them, and keys and values by layer and place.
type reckoned struct {
	weights      [][]int32
	keys, values [][][]int8
}

// times is the product of a matrix and a row.
func times(m api.Mat, x []int8) []int32 {
	y := make([]int32, m.Rows)
	for row := range y {
		var sum int64
		for col := range m.Cols {
			sum += int64(m.V[row*m.Cols+col]) * int64(x[col])
		}
		y[row] = int32(sum)
	}
	return y
}

// down is a product, each number by Quant (1, 7).
func down(ys []int32) []int8 {
	var out []int8
	for _, y := range ys {
		out = append(out, round.Quant(y, 1, 7))
	}
	return out
}

// must is what a call answers of arguments that are right.
func must[A any](x A, e api.Errno) A {
	if e != api.OK {
		panic(e)
	}
	return x
}

// headOf is head h of a row.
func headOf(s api.Shape, h int, row []int8) []int8 {
	n := s.Width / s.Heads
	return row[h*n : h*n+n]
}

// headsTurned is a row of which each head is turned at a place.
func headsTurned(s api.Shape, place int, row []int8) []int8 {
	var out []int8
	for h := range s.Heads {
		out = append(out, must(rope.Turn(place, headOf(s, h, row)...))...)
	}
	return out
}

// looked is the answer of all heads at the last place of keys and values.
func looked(s api.Shape, q []int8, keys, values [][]int8) []int8 {
	var out []int8
	for h := range s.Heads {
		var scores []int32
		var parts [][]int8
		for place := range keys {
			scores = append(scores, round.Dot(headOf(s, h, q), headOf(s, h, keys[place])))
			parts = append(parts, headOf(s, h, values[place]))
		}
		out = append(out, must(norm.Mix(norm.Softmax(64, 0, scores...), parts...))...)
	}
	return out
}

// reckon goes through the chapter's steps; not token by token, as the package does: each layer goes through all places ahead of the next layer.
func reckon(w api.Weights, tokens []int) reckoned {
	s := w.Shape
	var out reckoned
	xs := make([][]int32, len(tokens))
	for p, token := range tokens {
		for i := range s.Width {
			xs[p] = append(xs[p], 16*int32(w.Embed.V[token*s.Width+i]))
		}
	}
	for _, b := range w.Blocks {
		var qs, ks, vs [][]int8
		for p, x := range xs {
			a := must(norm.Norm(b.First, x))
			qs = append(qs, headsTurned(s, p, down(times(b.Q, a))))
			ks = append(ks, headsTurned(s, p, down(times(b.K, a))))
			vs = append(vs, down(times(b.V, a)))
		}
		for p := range xs {
			xs[p] = must(norm.Join(xs[p], times(b.O, looked(s, qs[p], ks[:p+1], vs[:p+1])), 1, 4))
			u := norm.Gate(down(times(b.Up, must(norm.Norm(b.Second, xs[p]))))...)
			xs[p] = must(norm.Join(xs[p], times(b.Down, u), 1, 4))
		}
		out.keys, out.values = append(out.keys, ks), append(out.values, vs)
	}
	for _, x := range xs {
		out.weights = append(out.weights, times(w.Head, must(norm.Norm(w.Last, x))))
	}
	return out
}

// holdKept holds what a run keeps, and how far it came, against what is reckoned of its tokens.
func holdKept(t *testing.T, what string, r *Run, wanted reckoned) {
	t.Helper()
	places := len(wanted.weights)
	if r.Place() != places {
		t.Fatalf("%s: place %d, not %d", what, r.Place(), places)
	}
	for layer, keys := range wanted.keys {
		for place := range places {
			k, v, ok := r.Kept(layer, place)
			if !ok || !slices.Equal(k, keys[place]) || !slices.Equal(v, wanted.values[layer][place]) {
				t.Fatalf("%s: Kept(%d, %d): %d, %d, %t, not %d, %d", what, layer, place, k, v, ok, keys[place], wanted.values[layer][place])
			}
		}
		refuseKept(t, what, r, layer, places)
	}
}

// refuseKept asks for what isn't there.
func refuseKept(t *testing.T, what string, r *Run, layer, place int) {
	t.Helper()
	if k, v, ok := r.Kept(layer, place); ok || len(k) != 0 || len(v) != 0 {
		t.Errorf("%s: Kept(%d, %d), which isn't there: %d, %d, %t", what, layer, place, k, v, ok)
	}
}

// refuseFeed feeds what isn't taken.
func refuseFeed(t *testing.T, r *Run, wanted api.Errno, tokens ...int) {
	t.Helper()
	place := r.Place()
	if x, e := r.Feed(tokens...); e != wanted || len(x) != 0 {
		t.Errorf("Feed of %d tokens, %d, at place %d: %d, %v, not %v", len(tokens), tokens, place, x, e, wanted)
	}
	if r.Place() != place {
		t.Errorf("Feed of %d, refused: place %d, and was %d", tokens, r.Place(), place)
	}
}

func TestP81NewOfWholeWeights(t *testing.T) {
	for _, s := range append(shapes(), of(16, 128, 16, 256, 512, 256)) {
		m := grown(t, s, 3)
		if m.Shape() != s {
			t.Errorf("Shape of %v: %v", s, m.Shape())
		}
		if r := m.Run(); r == nil || r.Place() != 0 {
			t.Errorf("Run of %v isn't at place 0", s)
		}
	}
}

// wrongs are weights of which one thing isn't right, by what it is.
func wrongs(t *testing.T, s api.Shape) map[string]api.Weights {
	t.Helper()
	all := map[string]api.Weights{"none": {}}
	add := func(what string, change func(w *api.Weights)) {
		w := filled(t, s, func() int8 { return 5 })
		change(&w)
		all[what] = w
	}
	for _, n := range []int{0, -1, 17, s.Layers + 1, math.MinInt, math.MaxInt} {
		add(fmt.Sprint("layers ", n), func(w *api.Weights) { w.Shape.Layers = n })
	}
	for _, n := range []int{0, -1, 1, 130, s.Width - 2, s.Width + 2, 2 * s.Width, math.MinInt, math.MaxInt} {
		add(fmt.Sprint("width ", n), func(w *api.Weights) { w.Shape.Width = n })
	}
	for _, n := range []int{0, -1, 17, 5, s.Width, math.MinInt, math.MaxInt} {
		add(fmt.Sprint("heads ", n), func(w *api.Weights) { w.Shape.Heads = n })
	}
	for _, n := range []int{0, -1, 257, s.Inner - 1, s.Inner + 1, math.MinInt, math.MaxInt} {
		add(fmt.Sprint("inner ", n), func(w *api.Weights) { w.Shape.Inner = n })
	}
	for _, n := range []int{0, -1, 513, s.Vocab - 1, s.Vocab + 1, math.MinInt, math.MaxInt} {
		add(fmt.Sprint("vocab ", n), func(w *api.Weights) { w.Shape.Vocab = n })
	}
	for _, n := range []int{0, -1, 257, math.MinInt, math.MaxInt} {
		add(fmt.Sprint("places ", n), func(w *api.Weights) { w.Shape.Places = n })
	}
	add("no blocks", func(w *api.Weights) { w.Blocks = nil })
	add("a block too few", func(w *api.Weights) { w.Blocks = w.Blocks[1:] })
	add("a block too many", func(w *api.Weights) { w.Blocks = append(w.Blocks, w.Blocks[0]) })
	add("an empty block", func(w *api.Weights) { w.Blocks[s.Layers-1] = api.Block{} })
	for i := range 3 + 8*s.Layers {
		add(fmt.Sprint("list ", i, " too short"), func(w *api.Weights) { l := listsOf(w)[i]; *l = (*l)[1:] })
		add(fmt.Sprint("list ", i, " too long"), func(w *api.Weights) { l := listsOf(w)[i]; *l = append(*l, 1) })
		add(fmt.Sprint("list ", i, " is none"), func(w *api.Weights) { *listsOf(w)[i] = nil })
	}
	for i := range 2 + 6*s.Layers {
		add(fmt.Sprint("matrix ", i, " of a row more"), func(w *api.Weights) {
			m := matricesOf(w)[i]
			m.Rows, m.V = m.Rows+1, append(m.V, make([]int8, m.Cols)...)
		})
		add(fmt.Sprint("matrix ", i, " of one column"), func(w *api.Weights) { m := matricesOf(w)[i]; m.Rows, m.Cols = m.Rows*m.Cols, 1 })
		add(fmt.Sprint("matrix ", i, " of sides below 0"), func(w *api.Weights) { m := matricesOf(w)[i]; m.Rows, m.Cols = -m.Rows, -m.Cols })
		add(fmt.Sprint("matrix ", i, " is none"), func(w *api.Weights) { *matricesOf(w)[i] = api.Mat{} })
	}
	return all
}

func TestP81NewOfWrongWeights(t *testing.T) {
	for what, w := range wrongs(t, of(2, 8, 2, 6, 7, 9)) {
		if m, e := New(w); m != nil || e != api.ErrShape {
			t.Errorf("New of weights with a fault (%s): %v, %v", what, m, e)
		}
	}
}

func TestP81RunsDoNothingToEachOther(t *testing.T) {
	m := grown(t, of(2, 8, 2, 6, 7, 9), 42)
	w, _ := weight.Grow(m.Shape(), 42)
	one, other := []int{1, 2, 3, 0, 6, 1, 1}, []int{6, 6, 0, 2, 4, 3, 5, 0, 1}
	a, b := m.Run(), m.Run()
	wantedA, wantedB := reckon(w, one), reckon(w, other)
	for i := range other {
		if i < len(one) {
			if x := fed(t, a, one[i]); !slices.Equal(x, wantedA.weights[i]) {
				t.Errorf("the one at place %d: %d, not %d", i, x, wantedA.weights[i])
			}
		}
		if x := fed(t, b, other[i]); !slices.Equal(x, wantedB.weights[i]) {
			t.Errorf("the other one at place %d: %d, not %d", i, x, wantedB.weights[i])
		}
		c := m.Run()
		if c.Place() != 0 {
			t.Errorf("a new run stands at place %d", c.Place())
		}
		refuseKept(t, "a new run", c, 0, 0)
	}
	holdKept(t, "the one", a, wantedA)
	holdKept(t, "the other one", b, wantedB)
}

func TestP82FeedOfTheChaptersExample(t *testing.T) {
	for _, s := range []api.Shape{of(1, 4, 2, 3, 5, 8), of(3, 8, 1, 2, 5, 2)} {
		m := model(t, filled(t, s, func() int8 { return 0 }))
		if x := fed(t, m.Run(), 3); !slices.Equal(x, []int32{0, 0, 0, 0, 0}) {
			t.Errorf("Feed(3) of noughts: %d", x)
		}
		refuseFeed(t, m.Run(), api.ErrArg, 5)
	}
}

// byHand is a model of one head, small enough to be reckoned with a pencil.
func byHand(t *testing.T) *Model {
	square := func(n int8) api.Mat { return api.Mat{Rows: 2, Cols: 2, V: []int8{n, 0, 0, n}} }
	return model(t, api.Weights{
		Shape: of(1, 2, 1, 1, 3, 4),
		Embed: api.Mat{Rows: 3, Cols: 2, V: []int8{10, -10, 0, 10, 0, 0}},
		Blocks: []api.Block{{
			First: []int8{16, 16}, Q: square(4), K: square(64), V: square(64), O: square(16),
			Second: []int8{16, 16}, Up: api.Mat{Rows: 1, Cols: 2, V: []int8{8, -8}}, Down: api.Mat{Rows: 2, Cols: 1, V: []int8{8, 16}},
		}},
		Last: []int8{16, 16},
		Head: api.Mat{Rows: 3, Cols: 2, V: []int8{1, 0, 0, 1, 1, 1}},
	})
}

func TestP82FeedOfAModelByHand(t *testing.T) {
	r := byHand(t).Run()
	// x is 160 -160, a 32 -32, q 1 -1, k and v 16 -16; y is 256 -256, x 176 -176; b is 32 -32, u 4, z 32 64, x 178 -172; the last norm 33 -31.
	if x := fed(t, r, 0); !slices.Equal(x, []int32{33, -31, 2}) {
		t.Errorf("Feed(0): %d", x)
	}
	// x is 0 160, a 0 45; turned by an eighth q is -1 1 and k -16 16; v is 0 22; the scores are -32 and 32, the weights .484 and .516, the answer 8 4;
	// y is 128 64, x 8 164; b is 2 45, what goes up -3, u 0; the last norm 2 45.
	if x := fed(t, r, 1); !slices.Equal(x, []int32{2, 45, 47}) {
		t.Errorf("Feed(1) behind it: %d", x)
	}
	for place, wanted := range [][2][]int8{{{16, -16}, {16, -16}}, {{-16, 16}, {0, 22}}} {
		if k, v, ok := r.Kept(0, place); !ok || !slices.Equal(k, wanted[0]) || !slices.Equal(v, wanted[1]) {
			t.Errorf("Kept(0, %d): %d, %d, %t, not %d", place, k, v, ok, wanted)
		}
	}
}

func TestP82FeedIsReckonedAsTheChapterSays(t *testing.T) {
	for _, s := range shapes() {
		tokens := someTokens(steady(uint64(s.Width)), s, min(s.Places, 12))
		for i, w := range kinds(t, s) {
			what := fmt.Sprintf("%v, weights %d", s, i)
			wanted := reckon(w, tokens)
			m := model(t, w)
			r := m.Run()
			for place, token := range tokens {
				if x := fed(t, r, token); !slices.Equal(x, wanted.weights[place]) {
					t.Fatalf("%s: behind token %d at place %d: %d, not %d", what, token, place, x, wanted.weights[place])
				}
			}
			holdKept(t, what, r, wanted)
			all := m.Run()
			if x := fed(t, all, tokens...); !slices.Equal(x, wanted.weights[len(tokens)-1]) {
				t.Fatalf("%s: behind %d in one call: %d, not %d", what, tokens, x, wanted.weights[len(tokens)-1])
			}
			holdKept(t, what+", in one call", all, wanted)
		}
	}
}

func TestP82FeedOfTheGreatestModel(t *testing.T) {
	s := of(16, 128, 16, 256, 512, 256)
	w, _ := weight.Grow(s, 5)
	tokens := []int{511, 0, 300, 511}
	wanted := reckon(w, tokens)
	r := model(t, w).Run()
	if x := fed(t, r, tokens...); !slices.Equal(x, wanted.weights[3]) {
		t.Error("the greatest model answers something else")
	}
	holdKept(t, "the greatest model", r, wanted)
}

func TestP82FeedOfAllPlaces(t *testing.T) {
	for _, s := range []api.Shape{of(1, 2, 1, 1, 3, 256), of(2, 8, 2, 6, 7, 256), of(1, 4, 2, 3, 5, 1), of(3, 4, 1, 2, 6, 2)} {
		w, _ := weight.Grow(s, 77)
		tokens := someTokens(steady(5), s, s.Places)
		wanted := reckon(w, tokens)
		m := model(t, w)
		all, single := m.Run(), m.Run()
		x := fed(t, all, tokens...)
		var y []int32
		for _, token := range tokens {
			y = fed(t, single, token)
		}
		if last := wanted.weights[s.Places-1]; !slices.Equal(x, last) || !slices.Equal(y, last) {
			t.Errorf("%v, all places: %d in one call, %d one by one, not %d", s, x, y, last)
		}
		for _, r := range []*Run{all, single} {
			refuseFeed(t, r, api.ErrFull, 0)
			refuseFeed(t, r, api.ErrFull, 0, s.Vocab-1)
			refuseFeed(t, r, api.ErrArg, s.Vocab)
			if x, e := r.Feed(); e != api.OK || len(x) != 0 {
				t.Errorf("%v: Feed of none behind all places: %d, %v", s, x, e)
			}
			holdKept(t, "behind all places", r, wanted)
		}
	}
}

func TestP82FeedOfNone(t *testing.T) {
	m := grown(t, of(2, 8, 2, 6, 7, 9), 42)
	r, other := m.Run(), m.Run()
	for place := range 10 {
		for _, none := range [][]int{nil, {}} {
			if x, e := r.Feed(none...); e != api.OK || len(x) != 0 || r.Place() != place {
				t.Errorf("Feed of none at place %d: %d, %v, place %d", place, x, e, r.Place())
			}
		}
		refuseKept(t, "Feed of none", r, 0, place)
		if place < 9 {
			if x, y := fed(t, r, place%7), fed(t, other, place%7); !slices.Equal(x, y) {
				t.Errorf("behind Feed of none at place %d: %d, not %d", place, x, y)
			}
		}
	}
}

// wrongTokens are numbers that are no tokens.
func wrongTokens(s api.Shape) []int {
	return []int{-1, -2, s.Vocab, s.Vocab + 1, -s.Vocab, 512, 1 << 32, 1<<32 + 1, -1 << 32, math.MinInt, math.MinInt + 1, math.MaxInt - 1, math.MaxInt}
}

func TestP82FeedOfWhatIsNoToken(t *testing.T) {
	s := of(2, 8, 2, 6, 7, 9)
	w, _ := weight.Grow(s, 42)
	r := model(t, w).Run()
	tokens := []int{1, 2, 0, 6, 5, 3, 3, 4, 0}
	for place, token := range tokens {
		for _, wrong := range wrongTokens(s) {
			refuseFeed(t, r, api.ErrArg, wrong)
			refuseFeed(t, r, api.ErrArg, wrong, 1, 2)
			refuseFeed(t, r, api.ErrArg, 1, wrong, 2)
			refuseFeed(t, r, api.ErrArg, 1, 2, wrong)
			// Too many of them as well: what is no token is told first.
			refuseFeed(t, r, api.ErrArg, append(slices.Repeat([]int{1}, 9), wrong)...)
			refuseFeed(t, r, api.ErrArg, append([]int{wrong}, slices.Repeat([]int{1}, 300)...)...)
		}
		holdKept(t, "behind what is no token", r, reckon(w, tokens[:place]))
		if x, wanted := fed(t, r, token), reckon(w, tokens[:place+1]).weights[place]; !slices.Equal(x, wanted) {
			t.Fatalf("behind what is no token, place %d: %d, not %d", place, x, wanted)
		}
	}
}

func TestP82FeedOfTooMany(t *testing.T) {
	s := of(2, 8, 2, 6, 7, 9)
	w, _ := weight.Grow(s, 42)
	m := model(t, w)
	tokens := []int{1, 2, 0, 6, 5, 3, 3, 4, 0}
	for place := range 10 {
		r := m.Run()
		r.Feed(tokens[:place]...)
		for _, more := range []int{1, 2, 3, 10, 1000} {
			refuseFeed(t, r, api.ErrFull, slices.Repeat([]int{1}, s.Places-place+more)...)
		}
		holdKept(t, "behind too many", r, reckon(w, tokens[:place]))
		if place < s.Places {
			if x, wanted := fed(t, r, tokens[place:]...), reckon(w, tokens).weights[s.Places-1]; !slices.Equal(x, wanted) {
				t.Errorf("behind too many, from place %d on: %d, not %d", place, x, wanted)
			}
		}
		refuseFeed(t, r, api.ErrFull, 1)
	}
}

// beyond are numbers that are no layer and no place, where there are n.
func beyond(n int) []int {
	return []int{-1, -2, -n, -n - 1, n, n + 1, 256, 1 << 32, -1 << 32, math.MinInt, math.MinInt + 1, math.MaxInt - 1, math.MaxInt}
}

func TestP83KeptOfWhatIsNotThere(t *testing.T) {
	m := grown(t, of(3, 8, 2, 6, 7, 9), 42)
	r := m.Run()
	for place := range 10 {
		for _, layer := range beyond(3) {
			for _, p := range append([]int{0, 1, place, place - 1}, beyond(9)...) {
				refuseKept(t, "no such layer", r, layer, p)
			}
		}
		for layer := range 3 {
			for _, p := range append(beyond(9), place, place+1, place+(1<<32)) {
				refuseKept(t, "no such place", r, layer, p)
			}
		}
		if place < 9 {
			fed(t, r, place%7)
		}
	}
}

func TestP83ARunAtWhichNothingWasFed(t *testing.T) {
	m := grown(t, of(2, 8, 2, 6, 7, 9), 42)
	r := m.Run()
	fork := r.Fork()
	for _, x := range []*Run{r, fork, fork.Fork()} {
		if x.Place() != 0 {
			t.Errorf("nothing was fed, and the place is %d", x.Place())
		}
		refuseKept(t, "nothing was fed", x, 0, 0)
		refuseFeed(t, x, api.ErrArg, -1)
		refuseFeed(t, x, api.ErrFull, make([]int, 10)...)
		if got, wanted := fed(t, x, 4, 5), fed(t, m.Run(), 4, 5); !slices.Equal(got, wanted) {
			t.Errorf("a fork of none: %d, not %d", got, wanted)
		}
	}
}

func TestP83ForkIsARunOfItsOwn(t *testing.T) {
	s := of(2, 8, 2, 6, 7, 9)
	w, _ := weight.Grow(s, 42)
	m := model(t, w)
	tokens, others := []int{1, 2, 0, 6, 5, 3, 3, 4, 0}, []int{6, 1, 1, 0, 2, 5, 4, 6, 3}
	for at := range 10 {
		r := m.Run()
		r.Feed(tokens[:at]...)
		fork := r.Fork()
		holdKept(t, "a fork", fork, reckon(w, tokens[:at]))
		way := append(slices.Clone(tokens[:at]), others[at:]...)
		// By turns: neither does anything to the other one.
		for i := at; i < s.Places; i++ {
			x, y := fed(t, fork, way[i]), fed(t, r, tokens[i])
			if wanted := reckon(w, way[:i+1]).weights[i]; !slices.Equal(x, wanted) {
				t.Fatalf("a fork at place %d, now at %d: %d, not %d", at, i, x, wanted)
			}
			if wanted := reckon(w, tokens[:i+1]).weights[i]; !slices.Equal(y, wanted) {
				t.Fatalf("a run that was forked at place %d, now at %d: %d, not %d", at, i, y, wanted)
			}
		}
		holdKept(t, "a fork, full", fork, reckon(w, way))
		holdKept(t, "a run that was forked, full", r, reckon(w, tokens))
		refuseFeed(t, fork.Fork(), api.ErrFull, 1)
	}
}

func TestP83ForksOfOneRun(t *testing.T) {
	s := of(3, 12, 3, 7, 11, 17)
	w, _ := weight.Grow(s, 8)
	r := model(t, w).Run()
	fed(t, r, 1, 2, 3)
	var forks []*Run
	for token := range s.Vocab {
		fork := r.Fork()
		fed(t, fork, token)
		forks = append(forks, fork.Fork())
		fed(t, fork, 0, 1)
	}
	for token, fork := range forks {
		if x, wanted := fed(t, fork, 7), reckon(w, []int{1, 2, 3, token, 7}).weights[4]; !slices.Equal(x, wanted) {
			t.Errorf("fork %d: %d, not %d", token, x, wanted)
		}
	}
	holdKept(t, "a run that was forked", r, reckon(w, []int{1, 2, 3}))
}

func TestP84WhatComesOutDependsOnTheTokensAlone(t *testing.T) {
	next := steady(31)
	for _, s := range shapes() {
		m := grown(t, s, next())
		for range 4 {
			tokens := someTokens(next, s, 1+int(next()>>16%uint64(min(s.Places, 20))))
			wanted := fed(t, m.Run(), tokens...)
			r := m.Run()
			var got []int32
			for left := tokens; len(left) > 0; {
				n := 1 + int(next()>>16%uint64(len(left)))
				if next()>>16%2 == 0 {
					r = r.Fork()
				}
				got = fed(t, r, left[:n]...)
				left = left[n:]
			}
			if !slices.Equal(got, wanted) {
				t.Errorf("%v: %d in several calls: %d, not %d", s, tokens, got, wanted)
			}
		}
	}
}

// room is a copy of a list with spare room behind it.
func room[N any](xs []N, spare N) []N {
	return append(slices.Clone(xs), spare, spare, spare)[:len(xs)]
}

// fenced are weights whose lists have spare room, and each list with its room.
func fenced(t *testing.T, s api.Shape) (api.Weights, [][]int8) {
	w, _ := weight.Grow(s, 42)
	w.Blocks = room(w.Blocks, api.Block{First: []int8{9}})
	var all [][]int8
	for _, l := range listsOf(&w) {
		*l = room(*l, 77)
		all = append(all, (*l)[:cap(*l)])
	}
	return w, all
}

// copied are copies of lists.
func copied[N any](lists [][]N) [][]N {
	var out [][]N
	for _, l := range lists {
		out = append(out, slices.Clone(l))
	}
	return out
}

// alike: have lists the same numbers?
func alike[N comparable](a, b [][]N) bool { return slices.EqualFunc(a, b, slices.Equal[[]N]) }

// spoil changes each number of a list, its spare room with it.
func spoil[N int8 | int32](xs []N) {
	xs = xs[:cap(xs)]
	for i := range xs {
		xs[i] = ^xs[i]
	}
}

func TestP84WeightsThatWereHandedIn(t *testing.T) {
	s := of(2, 8, 2, 6, 7, 9)
	w, lists := fenced(t, s)
	were := copied(lists)
	m := model(t, w)
	plain, _ := weight.Grow(s, 42)
	tokens := []int{1, 2, 0, 6, 5}
	wanted := reckon(plain, tokens)
	early := m.Run()
	fed(t, early, tokens[:2]...)
	if !alike(were, lists) || w.Blocks[:3][2].First[0] != 9 {
		t.Error("weights that were handed in are changed")
	}
	for _, l := range lists {
		spoil(l)
	}
	for i := range w.Blocks[:cap(w.Blocks)] {
		w.Blocks[:cap(w.Blocks)][i] = api.Block{}
	}
	if m.Shape() != s {
		t.Errorf("Shape behind a change of the weights: %v", m.Shape())
	}
	late := m.Run()
	for what, r := range map[string]*Run{"a run ahead of the change": early, "a run behind it": late} {
		if x := fed(t, r, tokens[r.Place():]...); !slices.Equal(x, wanted.weights[4]) {
			t.Errorf("a change of the weights that were handed in changes %s: %d, not %d", what, x, wanted.weights[4])
		}
		holdKept(t, what, r, wanted)
	}
}

func TestP84TokensThatWereHandedIn(t *testing.T) {
	s := of(2, 8, 2, 6, 7, 9)
	w, _ := weight.Grow(s, 42)
	r := model(t, w).Run()
	full := []int{1, 2, 3, 4, 5, 6, 0, 1}
	fed(t, r, full[:3]...)
	refuseFeed(t, r, api.ErrFull, full[:7]...)
	if !slices.Equal(full, []int{1, 2, 3, 4, 5, 6, 0, 1}) {
		t.Errorf("tokens that were handed in are changed: %d", full)
	}
	for i := range full {
		full[i] = 6
	}
	holdKept(t, "a change of tokens that were handed in", r, reckon(w, []int{1, 2, 3}))
	if x, wanted := fed(t, r, 4), reckon(w, []int{1, 2, 3, 4}).weights[3]; !slices.Equal(x, wanted) {
		t.Errorf("behind a change of tokens that were handed in: %d, not %d", x, wanted)
	}
}

func TestP84AnswersAreNewMemory(t *testing.T) {
	s := of(2, 8, 2, 6, 7, 9)
	w, _ := weight.Grow(s, 42)
	m := model(t, w)
	r := m.Run()
	tokens := []int{1, 2, 0, 6, 5, 3}
	for place := range tokens {
		wanted := reckon(w, tokens[:place+1])
		fork := r.Fork()
		x, y := fed(t, r, tokens[place]), fed(t, fork, tokens[place])
		spoil(x)
		if !slices.Equal(y, wanted.weights[place]) {
			t.Errorf("a change of an answer changes a fork's: %d, not %d", y, wanted.weights[place])
		}
		for layer := range s.Layers {
			k, v, _ := r.Kept(layer, place)
			spoil(k)
			if !slices.Equal(v, wanted.values[layer][place]) {
				t.Errorf("keys and values of one answer share memory: %d, not %d", v, wanted.values[layer][place])
			}
			spoil(v)
		}
		holdKept(t, "behind a change of what was kept", r, wanted)
		holdKept(t, "a fork, behind a change of what was kept", fork, wanted)
		if x := fed(t, m.Run(), tokens[:place+1]...); !slices.Equal(x, wanted.weights[place]) {
			t.Errorf("behind a change of an answer the model answers %d, not %d", x, wanted.weights[place])
		}
	}
}

// What is answered stays as it is, whatever is asked later.
func TestP84AnswersStay(t *testing.T) {
	s := of(2, 8, 2, 6, 7, 9)
	w, _ := weight.Grow(s, 42)
	r := model(t, w).Run()
	tokens := []int{1, 2, 0, 6, 5, 3, 3, 4, 0}
	wanted := reckon(w, tokens)
	var weights [][]int32
	var keys [][]int8
	for place, token := range tokens {
		weights = append(weights, fed(t, r, token))
		k, _, _ := r.Kept(1, place)
		keys = append(keys, k)
	}
	if !alike(weights, wanted.weights) || !alike(keys, wanted.keys[1]) {
		t.Errorf("answers are changed by later calls: %d, %d", weights, keys)
	}
}
