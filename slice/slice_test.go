package slice

import (
	"maps"
	"math"
	"math/big"
	"slices"
	"testing"

	"peloton/api"
	"peloton/matmul"
	"peloton/weight"
)

// of is a shape of the given numbers.
func of(layers, width, heads, inner, vocab, places int) api.Shape {
	return api.Shape{Layers: layers, Width: width, Heads: heads, Inner: inner, Vocab: vocab, Places: places}
}

// cut is one of so many stages and parts.
func cut(stages, parts int) api.Cut { return api.Cut{Stages: stages, Parts: parts} }

// example is the chapter's shape.
func example() api.Shape { return of(5, 8, 4, 6, 3, 4) }

// shapes are some that are right: of every number of layers, of every number of heads, of inner numbers that heads' parts divide and don't.
func shapes() []api.Shape {
	some := []api.Shape{
		example(), of(1, 2, 1, 1, 1, 1), of(1, 12, 6, 4, 5, 8), of(2, 8, 4, 6, 3, 4), of(3, 16, 8, 12, 7, 9),
		of(7, 128, 16, 256, 512, 256), of(16, 128, 16, 256, 512, 256), of(16, 32, 16, 1, 2, 3), of(16, 10, 5, 5, 2, 3),
		of(13, 26, 13, 13, 2, 2), of(4, 24, 12, 18, 2, 2), of(9, 28, 7, 255, 4, 4), of(16, 4, 1, 256, 4, 4),
	}
	for n := 1; n <= api.MaxLayers; n++ {
		some = append(some, of(n, 4, 2, 6, 3, 3), of(2, 2*n, n, 12, 3, 3), of(3, 24, 12, n, 3, 3), of(n, 2*n, n, n*n, 1, 1))
	}
	return some
}

// wrongShapes are none that are right: of each number, one too few and one too many, and the ends of int.
func wrongShapes() []api.Shape {
	wrong := []api.Shape{
		{}, of(5, 9, 4, 6, 3, 4), of(5, 12, 4, 6, 3, 4), of(5, 0, 4, 6, 3, 4), of(5, 4, 4, 6, 3, 4), of(5, 136, 4, 6, 3, 4),
		of(17, 8, 4, 6, 3, 4), of(5, 68, 17, 17, 3, 4), of(5, 8, 4, 257, 3, 4), of(5, 8, 4, 6, 513, 4), of(5, 8, 4, 6, 3, 257),
		of(0, 8, 4, 6, 3, 4), of(5, 8, 0, 6, 3, 4), of(5, 8, 4, 0, 3, 4), of(5, 8, 4, 6, 0, 4), of(5, 8, 4, 6, 3, 0),
		of(64, 8, 4, 6, 3, 4), of(-5, -8, -4, -6, -3, -4),
	}
	for _, n := range []int{-1, math.MinInt, math.MaxInt} {
		wrong = append(wrong, of(n, 8, 4, 6, 3, 4), of(5, n, 4, 6, 3, 4), of(5, 8, n, 6, 3, 4), of(5, 8, 4, n, 3, 4), of(5, 8, 4, 6, n, 4), of(5, 8, 4, 6, 3, n), of(n, n, n, n, n, n))
	}
	return wrong
}

// far are numbers that no count of stages or parts is, nor any stage, part or worker; products and sums of them leave an int.
func far() []int {
	return []int{
		-1, -2, -63, -64, -65, 4096, 1 << 31, 1 << 32, 1<<32 + 1, 1<<32 + 2, -1 << 32, 1<<58 + 1, 1<<62 + 1, 1 << 62, 1 << 63 / 3,
		math.MinInt, math.MinInt + 1, math.MinInt + 2, math.MinInt / 2, math.MaxInt / 2, math.MaxInt - 1, math.MaxInt,
	}
}

// counts are numbers of stages or parts: all around those that may be, and far ones.
func counts() []int {
	n := far()
	for i := range 70 {
		n = append(n, i)
	}
	return n
}

// even: is there a number that, taken so many times, makes n?
func even(parts, n int) bool {
	for each := 1; each <= n; each++ {
		if product(parts, each).Cmp(big.NewInt(int64(n))) == 0 {
			return true
		}
	}
	return false
}

// product is one of any size.
func product(a, b int) *big.Int { return new(big.Int).Mul(big.NewInt(int64(a)), big.NewInt(int64(b))) }

// right is what the chapter says of a shape and a cut.
func right(s api.Shape, c api.Cut) bool {
	return weight.Right(s) && c.Stages >= 1 && c.Stages <= s.Layers && c.Parts >= 1 && even(c.Parts, s.Heads) && even(c.Parts, s.Inner) &&
		product(c.Stages, c.Parts).Cmp(big.NewInt(64)) <= 0
}

// rightCuts are all those of a shape.
func rightCuts(s api.Shape) []api.Cut {
	var cs []api.Cut
	for stages := 1; stages <= 64; stages++ {
		for parts := 1; parts <= 64; parts++ {
			if right(s, cut(stages, parts)) {
				cs = append(cs, cut(stages, parts))
			}
		}
	}
	return cs
}

// wrongCuts are some that aren't right, of any shape.
func wrongCuts() []api.Cut {
	cs := []api.Cut{{}, cut(0, 1), cut(1, 0), cut(17, 1), cut(1, 17), cut(64, 1), cut(1, 64), cut(65, 1), cut(1, 65), cut(16, 16), cut(1<<32, 1<<32), cut(1, 1<<62), cut(1<<63/3, 3)}
	for _, n := range far() {
		cs = append(cs, cut(n, 1), cut(1, n), cut(n, n), cut(0, n), cut(n, 0))
	}
	return cs
}

// each goes through all right cuts of the shapes.
func each(f func(s api.Shape, c api.Cut)) {
	for _, s := range shapes() {
		for _, c := range rightCuts(s) {
			f(s, c)
		}
	}
}

// eachWrong goes through shapes and cuts that aren't right together.
func eachWrong(f func(s api.Shape, c api.Cut)) {
	for _, s := range shapes() {
		f(s, cut(s.Layers+1, 1))
		f(s, cut(1, s.Heads+1))
		for _, c := range wrongCuts() {
			f(s, c)
		}
	}
	for _, s := range wrongShapes() {
		for stages := range 6 {
			for parts := range 6 {
				f(s, cut(stages, parts))
			}
		}
		for _, c := range wrongCuts() {
			f(s, c)
		}
	}
	f(example(), cut(2, 4))
	f(example(), cut(2, 3))
	f(of(16, 10, 5, 5, 2, 3), cut(13, 5))
}

func TestP101ShapesOfTheTestsAreRight(t *testing.T) {
	for _, s := range shapes() {
		if !weight.Right(s) {
			t.Errorf("%v isn't right", s)
		}
		if len(rightCuts(s)) < s.Layers {
			t.Errorf("%v has %d right cuts", s, len(rightCuts(s)))
		}
	}
	for _, s := range wrongShapes() {
		if weight.Right(s) {
			t.Errorf("%v is right", s)
		}
	}
}

func TestP101RightIsWhatTheWordsSay(t *testing.T) {
	for _, s := range append(shapes(), wrongShapes()...) {
		for _, stages := range counts() {
			for _, parts := range counts() {
				c := cut(stages, parts)
				if got, want := Right(s, c), weight.Right(s) && right(s, c); got != want {
					t.Fatalf("Right(%v, %v) = %v, not %v", s, c, got, want)
				}
			}
		}
	}
}

func TestP101RightAtEdges(t *testing.T) {
	for _, x := range []struct {
		what string
		s    api.Shape
		c    api.Cut
		want bool
	}{
		{"the example", example(), cut(2, 2), true},
		{"the example of 4 parts: they don't divide 6", example(), cut(2, 4), false},
		{"3 parts divide Inner and not Heads", example(), cut(2, 3), false},
		{"one stage of one part", example(), cut(1, 1), true},
		{"a stage for each layer", example(), cut(5, 2), true},
		{"one stage more", example(), cut(6, 2), false},
		{"no stage", example(), cut(0, 2), false},
		{"a stage below", example(), cut(-1, 2), false},
		{"no part", example(), cut(2, 0), false},
		{"a part below, that would divide", example(), cut(2, -2), false},
		{"all below", example(), cut(-2, -2), false},
		{"a part for each head", of(5, 8, 4, 8, 3, 4), cut(2, 4), true},
		{"a part for each head, and one inner number each", of(5, 8, 4, 4, 3, 4), cut(2, 4), true},
		{"twice as many parts as heads", of(5, 8, 4, 8, 3, 4), cut(2, 8), false},
		{"twice as many parts as inner numbers", of(5, 8, 4, 2, 3, 4), cut(2, 4), false},
		{"64 workers of 16 stages", of(16, 8, 4, 4, 1, 1), cut(16, 4), true},
		{"64 workers of 4 stages", of(4, 32, 16, 16, 1, 1), cut(4, 16), true},
		{"64 workers of 8 stages, of more layers", of(16, 16, 8, 8, 1, 1), cut(8, 8), true},
		{"65 workers", of(16, 10, 5, 5, 1, 1), cut(13, 5), false},
		{"60 workers", of(16, 10, 5, 5, 1, 1), cut(12, 5), true},
		{"66 workers", of(16, 12, 6, 6, 1, 1), cut(11, 6), false},
		{"72 workers", of(16, 16, 8, 8, 1, 1), cut(9, 8), false},
		{"256 workers", of(16, 32, 16, 16, 1, 1), cut(16, 16), false},
		{"a shape of no heads", of(5, 8, 0, 6, 3, 4), cut(1, 1), false},
		{"a shape of an odd width", of(5, 9, 4, 6, 3, 4), cut(1, 1), false},
		{"a shape of no places", of(5, 8, 4, 6, 3, 0), cut(1, 1), false},
		{"a shape of 17 layers", of(17, 8, 4, 6, 3, 4), cut(17, 1), false},
		{"nothing", api.Shape{}, api.Cut{}, false},
	} {
		if got := Right(x.s, x.c); got != x.want {
			t.Errorf("%s: Right(%v, %v) = %v", x.what, x.s, x.c, got)
		}
	}
}

func TestP101WorkersIsHowMany(t *testing.T) {
	if n := Workers(example(), cut(2, 2)); n != 4 {
		t.Errorf("the example has %d", n)
	}
	each(func(s api.Shape, c api.Cut) {
		n := 0
		for range c.Stages {
			n += c.Parts
		}
		if got := Workers(s, c); got != n {
			t.Errorf("Workers(%v, %v) = %d, not %d", s, c, got, n)
		}
	})
	eachWrong(func(s api.Shape, c api.Cut) {
		if got := Workers(s, c); got != 0 {
			t.Errorf("Workers(%v, %v) = %d, not 0", s, c, got)
		}
	})
}

func TestP101WorkersAreNumberedInTheirOrder(t *testing.T) {
	for stages := 1; stages <= 64; stages++ {
		for parts := 1; parts <= 64; parts++ {
			c, next := cut(stages, parts), 0
			for stage := range stages {
				for part := range parts {
					if n, ok := Worker(c, stage, part); n != next || !ok {
						t.Fatalf("Worker(%v, %d, %d) = %d, %v, not %d", c, stage, part, n, ok, next)
					}
					if at, ok := Where(c, next); at != [2]int{stage, part} || !ok {
						t.Fatalf("Where(%v, %d) = %v, %v, not %d and %d", c, next, at, ok, stage, part)
					}
					next++
				}
			}
			noWhere(t, c, next, next+1, next+parts)
		}
	}
}

// noWorker: of a cut these stages and parts have no number.
func noWorker(t *testing.T, c api.Cut, stage, part int) {
	t.Helper()
	if n, ok := Worker(c, stage, part); n != 0 || ok {
		t.Fatalf("Worker(%v, %d, %d) = %d, %v", c, stage, part, n, ok)
	}
}

// noWhere: a cut has no workers of these numbers.
func noWhere(t *testing.T, c api.Cut, workers ...int) {
	t.Helper()
	for _, worker := range workers {
		if at, ok := Where(c, worker); at != [2]int{} || ok {
			t.Fatalf("Where(%v, %d) = %v, %v", c, worker, at, ok)
		}
	}
}

func TestP101WorkerAndWhereHaveNoneOutside(t *testing.T) {
	for _, c := range []api.Cut{cut(1, 1), cut(2, 2), cut(5, 1), cut(1, 5), cut(3, 7), cut(8, 8), cut(64, 1), cut(1, 64), cut(64, 64)} {
		for _, n := range append(far(), 64, 65) {
			noWorker(t, c, n, 0)
			noWorker(t, c, 0, n)
			noWorker(t, c, n, n)
		}
		for i := range 64 {
			noWorker(t, c, c.Stages, i)
			noWorker(t, c, c.Stages+i, 0)
			noWorker(t, c, i, c.Parts)
			noWorker(t, c, 0, c.Parts+i)
			noWorker(t, c, -1-i, 0)
			noWorker(t, c, 0, -1-i)
			noWhere(t, c, -1-i, c.Stages*c.Parts+i)
		}
		// -1 and one part too many would make a worker's number.
		noWorker(t, c, 1, -1)
		noWorker(t, c, -1, c.Parts)
		noWhere(t, c, far()...)
	}
}

func TestP101NoWorkersOfWrongCuts(t *testing.T) {
	some := append(far(), 0, 1, 2, 3, 63, 64, 65)
	for _, wrong := range append(far(), 0, 65, 66, 128) {
		for _, other := range some {
			for _, c := range []api.Cut{cut(wrong, other), cut(other, wrong)} {
				for _, n := range some {
					noWorker(t, c, n, 0)
					noWorker(t, c, 0, n)
					noWorker(t, c, n, n)
					noWhere(t, c, n)
				}
			}
		}
	}
}

func TestP101NumbersNeedNoRightCut(t *testing.T) {
	// Workers of 64 stages of 64 parts have numbers, though no shape has a right cut of so many.
	if n, ok := Worker(cut(64, 64), 63, 63); n != 4095 || !ok {
		t.Errorf("the last worker of 64 stages and parts: %d, %v", n, ok)
	}
	if at, ok := Where(cut(64, 64), 4095); at != [2]int{63, 63} || !ok {
		t.Errorf("the last worker of 64 stages and parts is at %v, %v", at, ok)
	}
	noWhere(t, cut(64, 64), 4096)
	if at, ok := Where(cut(9, 8), 70); at != [2]int{8, 6} || !ok {
		t.Errorf("worker 70 of 9 stages of 8 parts is at %v, %v", at, ok)
	}
}

func TestP101Examples(t *testing.T) {
	c := cut(2, 2)
	for worker, want := range [][2]int{{0, 0}, {0, 1}, {1, 0}, {1, 1}} {
		if at, ok := Where(c, worker); at != want || !ok {
			t.Errorf("Where(%v, %d) = %v, %v", c, worker, at, ok)
		}
		if n, ok := Worker(c, want[0], want[1]); n != worker || !ok {
			t.Errorf("Worker(%v, %d, %d) = %d, %v", c, want[0], want[1], n, ok)
		}
	}
}

// asked is one of Layers, Heads and Inner: its name, itself, how many things it cuts, in how many parts.
type asked struct {
	name string
	call func(api.Shape, api.Cut, int) ([2]int, api.Errno)
	n, m int
}

// all are Layers, Heads and Inner.
func all(s api.Shape, c api.Cut) []asked {
	return []asked{{"Layers", Layers, s.Layers, c.Stages}, {"Heads", Heads, s.Heads, c.Parts}, {"Inner", Inner, s.Inner, c.Parts}}
}

// from is i times n divided by m, without its rest, of numbers of any size.
func from(i, n, m int) int {
	return int(new(big.Int).Quo(product(i, n), big.NewInt(int64(m))).Int64())
}

func TestP102PartsAreEven(t *testing.T) {
	each(func(s api.Shape, c api.Cut) {
		for _, a := range all(s, c) {
			ends, e := matmul.Spans(a.n, a.m)
			if e != api.OK {
				t.Fatalf("Spans(%d, %d): %v", a.n, a.m, e)
			}
			for i := range a.m {
				got, e := a.call(s, c, i)
				if want := [2]int{from(i, a.n, a.m), from(i+1, a.n, a.m)}; got != want || got != [2]int{ends[i], ends[i+1]} || e != api.OK {
					t.Errorf("%s(%v, %v, %d) = %v, %v, not %v", a.name, s, c, i, got, e, want)
				}
			}
		}
	})
}

func TestP102Examples(t *testing.T) {
	s := example()
	for _, x := range []struct {
		name string
		call func(api.Shape, api.Cut, int) ([2]int, api.Errno)
		c    api.Cut
		i    int
		want [2]int
	}{
		{"Layers", Layers, cut(2, 2), 0, [2]int{0, 2}},
		{"Layers", Layers, cut(2, 2), 1, [2]int{2, 5}},
		{"Layers", Layers, cut(3, 1), 0, [2]int{0, 1}},
		{"Layers", Layers, cut(3, 1), 1, [2]int{1, 3}},
		{"Layers", Layers, cut(3, 1), 2, [2]int{3, 5}},
		{"Layers", Layers, cut(1, 2), 0, [2]int{0, 5}},
		{"Layers", Layers, cut(5, 2), 4, [2]int{4, 5}},
		{"Heads", Heads, cut(2, 2), 0, [2]int{0, 2}},
		{"Heads", Heads, cut(2, 2), 1, [2]int{2, 4}},
		{"Heads", Heads, cut(2, 1), 0, [2]int{0, 4}},
		{"Inner", Inner, cut(2, 2), 0, [2]int{0, 3}},
		{"Inner", Inner, cut(2, 2), 1, [2]int{3, 6}},
		{"Inner", Inner, cut(2, 1), 0, [2]int{0, 6}},
	} {
		if got, e := x.call(s, x.c, x.i); got != x.want || e != api.OK {
			t.Errorf("%s(%v, %v, %d) = %v, %v, not %v", x.name, s, x.c, x.i, got, e, x.want)
		}
	}
}

// refused: each of Layers, Heads and Inner answers this error, and nothing beside it.
func refused(t *testing.T, s api.Shape, c api.Cut, a asked, i int, want api.Errno) {
	t.Helper()
	if got, e := a.call(s, c, i); got != [2]int{} || e != want {
		t.Fatalf("%s(%v, %v, %d) = %v, %v, not %v", a.name, s, c, i, got, e, want)
	}
}

func TestP102NoSuchStageOrPart(t *testing.T) {
	each(func(s api.Shape, c api.Cut) {
		for _, a := range all(s, c) {
			for i := a.m; i < 70; i++ {
				refused(t, s, c, a, i, api.ErrArg)
			}
			for _, i := range far() {
				refused(t, s, c, a, i, api.ErrArg)
			}
		}
	})
}

func TestP102WrongCutsComeFirst(t *testing.T) {
	eachWrong(func(s api.Shape, c api.Cut) {
		for _, a := range all(s, c) {
			for _, i := range []int{0, 1, -1, c.Stages, c.Parts, c.Stages - 1, c.Parts - 1, 64, math.MinInt, math.MaxInt} {
				refused(t, s, c, a, i, api.ErrCut)
			}
		}
	})
}

// holds: does a stretch from one number up to another have n?
func holds(stretch [2]int, n int) bool { return stretch[0] <= n && n < stretch[1] }

// owners are, of a layer and a head, the workers whose stage has the one and whose part has the other.
func owners(s api.Shape, c api.Cut, layer, head int) []int {
	var found []int
	for worker := range c.Stages * c.Parts {
		stage, part := worker/c.Parts, worker%c.Parts
		layers := [2]int{from(stage, s.Layers, c.Stages), from(stage+1, s.Layers, c.Stages)}
		heads := [2]int{from(part, s.Heads, c.Parts), from(part+1, s.Heads, c.Parts)}
		if holds(layers, layer) && holds(heads, head) {
			found = append(found, worker)
		}
	}
	return found
}

func TestP103OwnersAreOneEach(t *testing.T) {
	each(func(s api.Shape, c api.Cut) {
		got := Owners(s, c)
		if len(got) != s.Layers*s.Heads {
			t.Errorf("Owners(%v, %v) has %d layers' heads", s, c, len(got))
		}
		for layer := range s.Layers {
			for head := range s.Heads {
				l := got[[2]int{layer, head}]
				if want := owners(s, c, layer, head); len(l) != 1 || !slices.Equal(l, want) {
					t.Fatalf("Owners(%v, %v) of layer %d, head %d: %d, not %d", s, c, layer, head, l, want)
				}
			}
		}
	})
}

func TestP103OwnersHaveWhatTheyOwn(t *testing.T) {
	each(func(s api.Shape, c api.Cut) {
		for spot, l := range Owners(s, c) {
			for _, worker := range l {
				at, _ := Where(c, worker)
				layers, _ := Layers(s, c, at[0])
				heads, _ := Heads(s, c, at[1])
				if worker >= Workers(s, c) || !holds(layers, spot[0]) || !holds(heads, spot[1]) {
					t.Fatalf("Owners(%v, %v): worker %d has no layer %d, head %d", s, c, worker, spot[0], spot[1])
				}
			}
		}
	})
}

func TestP103NoOwnersOfWhatIsNotRight(t *testing.T) {
	eachWrong(func(s api.Shape, c api.Cut) {
		if got := Owners(s, c); len(got) != 0 {
			t.Errorf("Owners(%v, %v) has %d", s, c, len(got))
		}
	})
}

func TestP103Example(t *testing.T) {
	got := Owners(example(), cut(2, 2))
	for spot, want := range map[[2]int]int{{0, 0}: 0, {0, 1}: 0, {1, 2}: 1, {1, 3}: 1, {2, 0}: 2, {4, 1}: 2, {2, 2}: 3, {4, 3}: 3} {
		if !slices.Equal(got[spot], []int{want}) {
			t.Errorf("of layer %d, head %d: %d, not %d", spot[0], spot[1], got[spot], want)
		}
	}
}

func TestP104OneBehindTheOther(t *testing.T) {
	each(func(s api.Shape, c api.Cut) {
		for _, a := range all(s, c) {
			next := 0
			for i := range a.m {
				got, e := a.call(s, c, i)
				if e != api.OK || got[0] != next || got[1] <= got[0] {
					t.Fatalf("%s(%v, %v, %d) = %v, %v, behind %d", a.name, s, c, i, got, e, next)
				}
				next = got[1]
			}
			if next != a.n {
				t.Errorf("%s of %v and %v end at %d", a.name, s, c, next)
			}
		}
	})
}

func TestP104EachInOne(t *testing.T) {
	each(func(s api.Shape, c api.Cut) {
		for _, a := range all(s, c) {
			for thing := range a.n {
				in := 0
				for i := range a.m {
					if got, _ := a.call(s, c, i); holds(got, thing) {
						in++
					}
				}
				if in != 1 {
					t.Fatalf("%s of %v and %v: %d is in %d parts", a.name, s, c, thing, in)
				}
			}
		}
	})
}

func TestP104PartsAreOfOneSize(t *testing.T) {
	each(func(s api.Shape, c api.Cut) {
		for part := range c.Parts {
			heads, _ := Heads(s, c, part)
			inner, _ := Inner(s, c, part)
			if (heads[1]-heads[0])*c.Parts != s.Heads || (inner[1]-inner[0])*c.Parts != s.Inner {
				t.Fatalf("part %d of %v and %v has heads %v, inner numbers %v", part, s, c, heads, inner)
			}
		}
	})
}

func TestP104AnswersAreNewMemory(t *testing.T) {
	each(func(s api.Shape, c api.Cut) {
		want := Owners(s, c)
		spoilt := Owners(s, c)
		for _, l := range spoilt {
			// The spare room of a list is its own, too.
			for i := range l[:cap(l)] {
				l[:cap(l)][i] = -7
			}
		}
		if got := Owners(s, c); !maps.EqualFunc(got, want, slices.Equal) {
			t.Fatalf("Owners(%v, %v): other lists were changed by the change of an answer", s, c)
		}
		clear(spoilt)
		if got := Owners(s, c); !maps.EqualFunc(got, want, slices.Equal) {
			t.Fatalf("Owners(%v, %v): other answers were changed by emptying one", s, c)
		}
	})
}

func TestP104ListsOfOneAnswerShareNone(t *testing.T) {
	each(func(s api.Shape, c api.Cut) {
		got, want := Owners(s, c), Owners(s, c)
		for spot, l := range got {
			for i := range l[:cap(l)] {
				l[:cap(l)][i] = -7
			}
			delete(got, spot)
			delete(want, spot)
			if !maps.EqualFunc(got, want, slices.Equal) {
				t.Fatalf("Owners(%v, %v): a change of the list of %v changed others", s, c, spot)
			}
		}
	})
}

func TestP104WrongOwnersAreNewMemory(t *testing.T) {
	if got := Owners(api.Shape{}, api.Cut{}); got != nil {
		got[[2]int{0, 0}] = []int{0}
	}
	if got := Owners(api.Shape{}, api.Cut{}); len(got) != 0 {
		t.Errorf("a change of an empty answer changed a later one: %v", got)
	}
}

func TestP104NothingIsKept(t *testing.T) {
	// Calls of wrong ones between change no answers.
	each(func(s api.Shape, c api.Cut) {
		before := Owners(s, c)
		Owners(s, cut(s.Layers+1, 1))
		Owners(api.Shape{}, c)
		Workers(example(), cut(5, 2))
		if n := Workers(s, c); n != c.Stages*c.Parts || !maps.EqualFunc(before, Owners(s, c), slices.Equal) {
			t.Fatalf("%v and %v: another answer behind other calls", s, c)
		}
	})
}
