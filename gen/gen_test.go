package gen

import (
	"fmt"
	"math"
	"math/big"
	"slices"
	"testing"

	"peloton/api"
	"peloton/model"
	"peloton/round"
	"peloton/weight"
)

// steady answers numbers by a fixed rule, so that a test is the same each time.
func steady(seed uint64) func() uint64 {
	return func() uint64 {
		seed = seed*6364136223846793005 + 1442695040888963407
		return seed ^ seed>>29
	}
}

// of is a shape of the given numbers.
func of(layers, width, heads, inner, vocab, places int) api.Shape {
	return api.Shape{Layers: layers, Width: width, Heads: heads, Inner: inner, Vocab: vocab, Places: places}
}

// shapes are some that are right: of one head and several, one layer and several, one place and many, one token and many.
func shapes() []api.Shape {
	return []api.Shape{
		of(1, 2, 1, 1, 1, 1), of(1, 4, 1, 3, 5, 8), of(2, 8, 2, 6, 7, 9), of(3, 12, 3, 7, 11, 17), of(2, 12, 2, 5, 2, 6),
		of(16, 4, 2, 3, 5, 7), of(2, 32, 16, 4, 9, 12), of(1, 10, 5, 256, 4, 5), of(1, 6, 3, 2, 512, 30), of(1, 2, 1, 1, 3, 40),
	}
}

// made is a model of weights.
func made(t *testing.T, w api.Weights) *model.Model {
	t.Helper()
	m, e := model.New(w)
	if e != api.OK {
		t.Fatalf("New of weights of %v: %v", w.Shape, e)
	}
	return m
}

// grown is a model of a shape and a seed.
func grown(t *testing.T, s api.Shape, seed uint64) *model.Model {
	t.Helper()
	w, e := weight.Grow(s, seed)
	if e != api.OK {
		t.Fatalf("Grow of %v: %v", s, e)
	}
	return made(t, w)
}

// plain are weights of a shape that leave a token's row as it is: all numbers are 0, but those of Last.
func plain(t *testing.T, s api.Shape) api.Weights {
	t.Helper()
	w, e := weight.Grow(s, 1)
	if e != api.OK {
		t.Fatalf("Grow of %v: %v", s, e)
	}
	for _, b := range w.Blocks {
		for _, l := range [][]int8{b.First, b.Second, b.Q.V, b.K.V, b.V.V, b.O.V, b.Up.V, b.Down.V} {
			clear(l)
		}
	}
	clear(w.Embed.V)
	clear(w.Head.V)
	for i := range w.Last {
		w.Last[i] = 16
	}
	return w
}

// counter is a model that says behind each token the next one, and 0 behind the last one.
func counter(t *testing.T, vocab, places int) *model.Model {
	t.Helper()
	w := plain(t, of(1, 2*vocab, 1, 1, vocab, places))
	for token := range vocab {
		w.Embed.V[token*w.Embed.Cols+token] = 100
		w.Head.V[(token+1)%vocab*w.Head.Cols+token] = 1
	}
	return made(t, w)
}

// someTokens are n tokens by next.
func someTokens(next func() uint64, s api.Shape, n int) []int {
	tokens := make([]int, n)
	for i := range tokens {
		tokens[i] = int(next() >> 16 % uint64(s.Vocab))
	}
	return tokens
}

// wrongTokens are numbers that are no tokens.
func wrongTokens(vocab int) []int {
	return []int{-1, -2, -vocab, vocab, vocab + 1, 512, 1 << 32, 1<<32 + 1, -1 << 32, math.MinInt, math.MinInt + 1, math.MaxInt - 1, math.MaxInt}
}

// reckon is what the chapter says of a prompt: token by token, each fed to one run, and the greatest weight of those that come out.
func reckon(t *testing.T, m *model.Model, prompt []int, most int) []int {
	t.Helper()
	r := m.Run()
	var weights []int32
	feed := func(token int) {
		x, e := r.Feed(token)
		if e != api.OK {
			t.Fatalf("Feed(%d) at place %d: %v", token, r.Place(), e)
		}
		weights = x
	}
	for _, token := range prompt {
		feed(token)
	}
	said := []int{round.Argmax(weights...)}
	for len(said) < most {
		feed(said[len(said)-1])
		said = append(said, round.Argmax(weights...))
	}
	return said
}

// room is how much may be generated behind n tokens.
func room(m *model.Model, n int) int { return m.Shape().Places - n + 1 }

// generated is what Generate answers, of what is right.
func generated(t *testing.T, m *model.Model, prompt []int, most int) []int {
	t.Helper()
	said, e := Generate(m, prompt, most)
	if e != api.OK {
		t.Fatalf("Generate behind %d, most %d: %v", prompt, most, e)
	}
	return said
}

// begun is a talk behind a prompt that is right.
func begun(t *testing.T, m *model.Model, prompt ...int) *Talk {
	t.Helper()
	k, e := Begin(m, prompt...)
	if k == nil || e != api.OK {
		t.Fatalf("Begin behind %d: %v, %v", prompt, k, e)
	}
	return k
}

// holdNext holds a talk's next token, and all that it said, against all that it should have said then.
func holdNext(t *testing.T, what string, k *Talk, wanted []int) {
	t.Helper()
	last := wanted[len(wanted)-1]
	if token, ok := k.Next(); token != last || !ok {
		t.Fatalf("%s: Next number %d: %d, %t, not %d", what, len(wanted), token, ok, last)
	}
	holdSaid(t, what, k, wanted)
}

// holdSaid holds what a talk said against what it should have said.
func holdSaid(t *testing.T, what string, k *Talk, wanted []int) {
	t.Helper()
	if said := k.Said(); !slices.Equal(said, wanted) {
		t.Fatalf("%s: Said: %d, not %d", what, said, wanted)
	}
}

// holdOver asks a talk that is over for more, again and again.
func holdOver(t *testing.T, what string, k *Talk, wanted []int) {
	t.Helper()
	for range 5 {
		if token, ok := k.Next(); token != 0 || ok {
			t.Fatalf("%s: Next behind the last token: %d, %t", what, token, ok)
		}
		holdSaid(t, what, k, wanted)
	}
}

// refuse asks Generate for what it refuses.
func refuse(t *testing.T, m *model.Model, prompt []int, most int, wanted api.Errno) {
	t.Helper()
	if said, e := Generate(m, prompt, most); e != wanted || len(said) != 0 {
		t.Errorf("Generate behind %d, most %d: %d, %v, not %v", prompt, most, said, e, wanted)
	}
}

// refuseBegin asks Begin for what it refuses.
func refuseBegin(t *testing.T, m *model.Model, wanted api.Errno, prompt ...int) {
	t.Helper()
	if k, e := Begin(m, prompt...); e != wanted || k != nil {
		t.Errorf("Begin behind %d: %v, %v, not %v", prompt, k, e, wanted)
	}
}

// asked is what Check is asked, and what it should answer.
type asked struct {
	what   string
	shape  api.Shape
	prompt []int
	most   int
	wanted api.Errno
}

// hold holds Check's answers against those that it should give.
func hold(t *testing.T, cases []asked) {
	t.Helper()
	for _, c := range cases {
		if e := Check(c.shape, c.prompt, c.most); e != c.wanted {
			t.Errorf("%s: Check(%v, %d, %d): %v, not %v", c.what, c.shape, c.prompt, c.most, e, c.wanted)
		}
	}
}

func TestP91CheckOfTheChaptersExamples(t *testing.T) {
	s := of(1, 4, 2, 3, 5, 8)
	hold(t, []asked{
		{"no prompt", s, nil, 3, api.ErrEmpty},
		{"eight places", s, []int{1, 1}, 7, api.OK},
		{"eight places, and one more", s, []int{1, 1}, 8, api.ErrFull},
	})
}

func TestP91CheckOfOrdinaryPromptsAndTheirEdges(t *testing.T) {
	s := of(2, 8, 2, 6, 7, 9)
	hold(t, []asked{
		{"one token", s, []int{3}, 1, api.OK},
		{"the first and the last token", s, []int{0, 6}, 4, api.OK},
		{"as many as there are places for", s, []int{3}, 9, api.OK},
		{"one more", s, []int{3}, 10, api.ErrFull},
		{"a prompt of all places", s, make([]int, 9), 1, api.OK},
		{"a prompt of all places, and one more", s, make([]int, 9), 2, api.ErrFull},
		{"a prompt of more", s, make([]int, 10), 1, api.ErrFull},
		{"a prompt of far more", s, make([]int, 1000), 1, api.ErrFull},
		{"one place", of(1, 2, 1, 1, 1, 1), []int{0}, 1, api.OK},
		{"one place, and one more", of(1, 2, 1, 1, 1, 1), []int{0}, 2, api.ErrFull},
	})
}

func TestP91CheckOfWhatIsNoToken(t *testing.T) {
	s := of(2, 8, 2, 6, 7, 9)
	for _, wrong := range wrongTokens(7) {
		hold(t, []asked{
			{"alone", s, []int{wrong}, 1, api.ErrArg},
			{"the first", s, []int{wrong, 0, 6}, 2, api.ErrArg},
			{"in the midst", s, []int{0, wrong, 6}, 2, api.ErrArg},
			{"the last", s, []int{0, 6, wrong}, 2, api.ErrArg},
			{"of all places", s, append(make([]int, 8), wrong), 1, api.ErrArg},
		})
	}
}

func TestP91CheckOfMost(t *testing.T) {
	s := of(2, 8, 2, 6, 7, 9)
	for _, most := range []int{0, -1, -8, -9, -10, -1 << 32, math.MinInt, math.MinInt + 1} {
		hold(t, []asked{{"below 1", s, []int{1}, most, api.ErrArg}, {"below 1", s, []int{1, 2, 3}, most, api.ErrArg}})
	}
	for _, most := range []int{10, 256, 1 << 32, 1<<32 + 1, 1 << 62, math.MaxInt - 1, math.MaxInt} {
		hold(t, []asked{{"above all", s, []int{1}, most, api.ErrFull}, {"above all", s, make([]int, 9), most, api.ErrFull}, {"above all", s, make([]int, 20), most, api.ErrFull}})
	}
}

func TestP91CheckTellsTheFirstError(t *testing.T) {
	s := of(2, 8, 2, 6, 7, 9)
	long := make([]int, 20)
	hold(t, []asked{
		{"no tokens, most 0", s, nil, 0, api.ErrEmpty},
		{"no tokens, most below 0", s, []int{}, math.MinInt, api.ErrEmpty},
		{"no tokens, most above all", s, []int{}, math.MaxInt, api.ErrEmpty},
		{"no tokens, no shape", api.Shape{}, nil, 0, api.ErrEmpty},
		{"no token, most 0", s, []int{7}, 0, api.ErrArg},
		{"no token, most above all", s, []int{-1}, math.MaxInt, api.ErrArg},
		{"no token, too many", s, append(slices.Clone(long), 7), 1, api.ErrArg},
		{"too many, most 0", s, long, 0, api.ErrArg},
		{"too many, most below 0", s, long, math.MinInt, api.ErrArg},
		{"no shape", api.Shape{}, []int{0}, 1, api.ErrArg},
	})
}

func TestP91CheckOfShapesThatAreNotRight(t *testing.T) {
	const low, high = math.MinInt, math.MaxInt
	two := []int{0, 1}
	hold(t, []asked{
		{"the other sides don't matter", api.Shape{Layers: low, Width: high, Heads: low, Inner: high, Vocab: 7, Places: 9}, []int{6, 0}, 8, api.OK},
		{"nor here", api.Shape{Layers: high, Width: low, Heads: high, Inner: low, Vocab: 7, Places: 9}, []int{6, 0}, 9, api.ErrFull},
		{"all tokens, all places", of(1, 2, 1, 1, high, high), []int{high - 1, 0}, high - 1, api.OK},
		{"one more", of(1, 2, 1, 1, high, high), []int{high - 1, 0}, high, api.ErrFull},
		{"one token", of(1, 2, 1, 1, high, high), []int{high - 1}, high, api.OK},
		{"one above all tokens", of(1, 2, 1, 1, high, high), []int{high}, 1, api.ErrArg},
		{"one below 0", of(1, 2, 1, 1, high, high), []int{low}, 1, api.ErrArg},
		{"no tokens below 0", of(1, 2, 1, 1, low, 9), []int{-1}, 1, api.ErrArg},
		{"no tokens", of(1, 2, 1, 1, low, 9), []int{0}, 1, api.ErrArg},
		{"none of none", of(1, 2, 1, 1, 0, 9), []int{0}, 1, api.ErrArg},
		{"no places", of(1, 2, 1, 1, 7, 0), two, 1, api.ErrFull},
		{"places below 0", of(1, 2, 1, 1, 7, -1), two, 1, api.ErrFull},
		{"the fewest places", of(1, 2, 1, 1, 7, low), two, 1, api.ErrFull},
		{"the fewest places, the greatest most", of(1, 2, 1, 1, 7, low), two, high, api.ErrFull},
		{"the fewest places, the smallest most", of(1, 2, 1, 1, 7, low), two, low, api.ErrArg},
	})
}

// checked is what the chapter says of Check, by numbers of any size.
func checked(s api.Shape, prompt []int, most int) api.Errno {
	if len(prompt) == 0 {
		return api.ErrEmpty
	}
	for _, token := range prompt {
		if token < 0 || token >= s.Vocab {
			return api.ErrArg
		}
	}
	if most < 1 {
		return api.ErrArg
	}
	sum := new(big.Int).Add(big.NewInt(int64(len(prompt))), big.NewInt(int64(most)))
	if sum.Sub(sum, big.NewInt(1)).Cmp(big.NewInt(int64(s.Places))) > 0 {
		return api.ErrFull
	}
	return api.OK
}

func TestP91CheckIsReckonedAsTheChapterSays(t *testing.T) {
	ends := []int{math.MinInt, math.MinInt + 1, -2, -1, 0, 1, 2, 3, 4, 5, 6, math.MaxInt - 5, math.MaxInt - 2, math.MaxInt - 1, math.MaxInt}
	prompts := [][]int{nil, {}, {0}, {1}, {0, 1}, {1, 2}, {0, 0, 0}, {0, 0, 0, 0}, {0, 1, -1}, {math.MaxInt, 0}, {math.MaxInt - 1}, {math.MinInt}}
	var cases []asked
	for _, vocab := range ends {
		for _, places := range ends {
			s := of(1, 2, 1, 1, vocab, places)
			for _, most := range ends {
				for _, prompt := range prompts {
					cases = append(cases, asked{"any", s, prompt, most, checked(s, prompt, most)})
				}
			}
		}
	}
	hold(t, cases)
}

func TestP92GenerateOfTheChaptersExample(t *testing.T) {
	for _, s := range []api.Shape{of(1, 4, 2, 3, 5, 8), of(3, 8, 1, 2, 4, 3)} {
		w := plain(t, s)
		clear(w.Last)
		if said := generated(t, made(t, w), []int{2}, 3); !slices.Equal(said, []int{0, 0, 0}) {
			t.Errorf("a model of noughts behind (2), most 3: %d", said)
		}
	}
	m := grown(t, of(1, 4, 2, 3, 5, 8), 1)
	refuse(t, m, nil, 3, api.ErrEmpty)
	refuse(t, m, []int{1, 1}, 8, api.ErrFull)
	if said := generated(t, m, []int{1, 1}, 7); len(said) != 7 {
		t.Errorf("behind (1 1), most 7: %d", said)
	}
}

func TestP92GenerateOfACounter(t *testing.T) {
	m := counter(t, 6, 9)
	for _, c := range []struct {
		prompt []int
		most   int
		wanted []int
	}{
		{[]int{3}, 1, []int{4}},
		{[]int{3}, 2, []int{4, 5}},
		{[]int{3}, 9, []int{4, 5, 0, 1, 2, 3, 4, 5, 0}},
		{[]int{5}, 3, []int{0, 1, 2}},
		{[]int{3, 3, 0}, 4, []int{1, 2, 3, 4}},
		{[]int{0, 1, 2, 3, 4, 5, 4, 3, 2}, 1, []int{3}},
	} {
		if said := generated(t, m, c.prompt, c.most); !slices.Equal(said, c.wanted) {
			t.Errorf("behind %d, most %d: %d, not %d", c.prompt, c.most, said, c.wanted)
		}
	}
}

func TestP92GenerateIsReckonedAsTheChapterSays(t *testing.T) {
	next := steady(3)
	for _, s := range shapes() {
		m := grown(t, s, next())
		for _, n := range []int{1, 2, 3, s.Places / 2, s.Places - 1, s.Places} {
			if n < 1 || n > s.Places {
				continue
			}
			prompt := someTokens(next, s, n)
			for _, most := range []int{1, 2, 3, room(m, n) - 1, room(m, n)} {
				if most < 1 || most > room(m, n) {
					continue
				}
				if said, wanted := generated(t, m, prompt, most), reckon(t, m, prompt, most); !slices.Equal(said, wanted) {
					t.Fatalf("%v: behind %d, most %d: %d, not %d", s, prompt, most, said, wanted)
				}
			}
		}
	}
}

// Were all answers of a model alike, holding them against one another would tell nothing of the prompts.
func TestP92WhatIsGeneratedDependsOnTheWholePrompt(t *testing.T) {
	m := grown(t, of(2, 8, 2, 6, 7, 9), 42)
	said := map[string]bool{}
	for first := range 7 {
		for second := range 7 {
			said[fmt.Sprint(generated(t, m, []int{first, second, 3}, 5))] = true
		}
	}
	if len(said) < 7 {
		t.Errorf("behind 49 prompts only %d answers", len(said))
	}
}

func TestP92GenerateOfTheMostPlaces(t *testing.T) {
	m := grown(t, of(1, 4, 2, 3, 5, 256), 8)
	if said, wanted := generated(t, m, []int{2}, 256), reckon(t, m, []int{2}, 256); !slices.Equal(said, wanted) {
		t.Errorf("behind (2), most 256: %d, not %d", said, wanted)
	}
	refuse(t, m, []int{2}, 257, api.ErrFull)
	full := someTokens(steady(4), m.Shape(), 256)
	if said, wanted := generated(t, m, full, 1), reckon(t, m, full, 1); !slices.Equal(said, wanted) {
		t.Errorf("behind a prompt of 256: %d, not %d", said, wanted)
	}
	refuse(t, m, full, 2, api.ErrFull)
}

// tied is a model whose weights of tokens a and b are equal and the greatest ones, behind every prompt.
func tied(t *testing.T, s api.Shape, a, b int) *model.Model {
	t.Helper()
	w := plain(t, s)
	for token := range s.Vocab {
		w.Embed.V[token*s.Width] = 100
		w.Head.V[token*s.Width] = -1
	}
	w.Head.V[a*s.Width], w.Head.V[b*s.Width] = 3, 3
	return made(t, w)
}

func TestP92OfEqualWeightsTheFirst(t *testing.T) {
	s := of(2, 4, 2, 3, 6, 5)
	for b := range s.Vocab {
		for a := range b {
			m := tied(t, s, a, b)
			wanted := slices.Repeat([]int{a}, 5)
			if said := generated(t, m, []int{3}, 5); !slices.Equal(said, wanted) {
				t.Errorf("%d and %d have equal weights: %d", a, b, said)
			}
			k := begun(t, m, 3)
			for n := range wanted {
				holdNext(t, "equal weights", k, wanted[:n+1])
			}
			holdOver(t, "equal weights", k, wanted)
		}
	}
}

func TestP92GenerateOfNoModel(t *testing.T) {
	for _, prompt := range [][]int{nil, {}, {0}, {-1}, {1, 2, 3}, make([]int, 300)} {
		for _, most := range []int{math.MinInt, -1, 0, 1, 2, math.MaxInt} {
			refuse(t, nil, prompt, most, api.ErrNil)
		}
	}
}

func TestP92GenerateOfWhatIsWrong(t *testing.T) {
	s := of(2, 8, 2, 6, 7, 9)
	m := grown(t, s, 42)
	wanted := reckon(t, m, []int{1, 2}, 8)
	for _, wrong := range wrongTokens(s.Vocab) {
		for _, prompt := range [][]int{{wrong}, {wrong, 0, 1}, {0, wrong, 1}, {0, 1, wrong}} {
			refuse(t, m, prompt, 1, api.ErrArg)
			refuse(t, m, prompt, 0, api.ErrArg)
			refuse(t, m, prompt, math.MaxInt, api.ErrArg)
		}
	}
	for _, most := range []int{0, -1, math.MinInt, math.MinInt + 1} {
		refuse(t, m, nil, most, api.ErrEmpty)
		refuse(t, m, []int{1}, most, api.ErrArg)
		refuse(t, m, make([]int, 20), most, api.ErrArg)
	}
	for _, most := range []int{10, 300, 1 << 32, math.MaxInt - 1, math.MaxInt} {
		refuse(t, m, []int{}, most, api.ErrEmpty)
		refuse(t, m, []int{1}, most, api.ErrFull)
		refuse(t, m, make([]int, 9), most, api.ErrFull)
		refuse(t, m, make([]int, 20), most, api.ErrFull)
	}
	if said := generated(t, m, []int{1, 2}, 8); !slices.Equal(said, wanted) {
		t.Errorf("behind what was refused: %d, not %d", said, wanted)
	}
}

// What Generate answers, and what Begin answers, is Check's answer of the model's shape.
func TestP92AnswersCheckOfTheModelsShape(t *testing.T) {
	for _, s := range []api.Shape{of(1, 2, 1, 1, 1, 1), of(1, 4, 2, 3, 5, 3), of(2, 4, 1, 2, 3, 4)} {
		m := grown(t, s, 6)
		for n := range 6 {
			for _, token := range []int{0, s.Vocab - 1, s.Vocab, -1} {
				prompt := slices.Repeat([]int{token}, n)
				for most := -2; most < 7; most++ {
					if said, e := Generate(m, prompt, most); e != Check(s, prompt, most) || e == api.OK && len(said) != most {
						t.Errorf("%v: Generate behind %d, most %d: %d, %v", s, prompt, most, said, e)
					}
				}
				if k, e := Begin(m, prompt...); e != Check(s, prompt, 1) || (e == api.OK) != (k != nil) {
					t.Errorf("%v: Begin behind %d: %v, %v", s, prompt, k, e)
				}
			}
		}
	}
}

func TestP93BeginOfWhatIsWrong(t *testing.T) {
	s := of(2, 8, 2, 6, 7, 9)
	m := grown(t, s, 42)
	for _, prompt := range [][]int{nil, {}, {0}, {-1}, {7, 7}, make([]int, 300)} {
		refuseBegin(t, nil, api.ErrNil, prompt...)
	}
	refuseBegin(t, m, api.ErrEmpty)
	refuseBegin(t, m, api.ErrEmpty, []int{}...)
	for _, wrong := range wrongTokens(s.Vocab) {
		refuseBegin(t, m, api.ErrArg, wrong)
		refuseBegin(t, m, api.ErrArg, wrong, 0, 1)
		refuseBegin(t, m, api.ErrArg, 0, wrong, 1)
		refuseBegin(t, m, api.ErrArg, 0, 1, wrong)
		refuseBegin(t, m, api.ErrArg, append(make([]int, 20), wrong)...)
	}
	refuseBegin(t, m, api.ErrFull, make([]int, 10)...)
	refuseBegin(t, m, api.ErrFull, make([]int, 1000)...)
}

func TestP93ATalkOfACounter(t *testing.T) {
	k := begun(t, counter(t, 5, 6), 1, 3)
	holdSaid(t, "ahead of the first Next", k, nil)
	wanted := []int{4, 0, 1, 2, 3}
	for n := range wanted {
		holdNext(t, "a counter", k, wanted[:n+1])
	}
	holdOver(t, "a counter", k, wanted)
}

func TestP93ATalkSaysAsManyAsThereArePlacesFor(t *testing.T) {
	next := steady(12)
	for _, s := range shapes() {
		m := grown(t, s, next())
		for n := 1; n <= s.Places; n += 1 + n/3 {
			prompt := someTokens(next, s, n)
			what := fmt.Sprintf("%v behind %d", s, prompt)
			wanted := reckon(t, m, prompt, room(m, n))
			k := begun(t, m, prompt...)
			holdSaid(t, what, k, nil)
			for i := range wanted {
				holdNext(t, what, k, wanted[:i+1])
			}
			holdOver(t, what, k, wanted)
		}
	}
}

func TestP93APromptOfAllPlaces(t *testing.T) {
	for _, s := range shapes() {
		m := grown(t, s, 99)
		prompt := someTokens(steady(8), s, s.Places)
		wanted := reckon(t, m, prompt, 1)
		k := begun(t, m, prompt...)
		holdNext(t, "a prompt of all places", k, wanted)
		holdOver(t, "a prompt of all places", k, wanted)
	}
}

// A talk whose first tokens were never asked for by Said says them all later.
func TestP93SaidIsAskedOnceAtTheEnd(t *testing.T) {
	m := grown(t, of(2, 8, 2, 6, 7, 9), 42)
	k := begun(t, m, 5, 1)
	for range 20 {
		k.Next()
	}
	holdSaid(t, "asked at the end", k, reckon(t, m, []int{5, 1}, 8))
}

func TestP93TalksDoNothingToEachOther(t *testing.T) {
	m := grown(t, of(2, 8, 2, 6, 7, 9), 42)
	prompts := [][]int{{3}, {3}, {6, 0, 2}, {1, 1, 1, 1, 1, 1, 1}, {0, 6}}
	var talks []*Talk
	var wanted [][]int
	for _, prompt := range prompts {
		talks = append(talks, begun(t, m, prompt...))
		wanted = append(wanted, reckon(t, m, prompt, room(m, len(prompt))))
	}
	run := m.Run()
	for n := range 12 {
		for i, k := range talks {
			what := fmt.Sprintf("talk %d", i)
			if n < len(wanted[i]) {
				holdNext(t, what, k, wanted[i][:n+1])
			} else {
				holdOver(t, what, k, wanted[i])
			}
		}
		refuseBegin(t, m, api.ErrArg, 7)
		if said := generated(t, m, prompts[2], 7); !slices.Equal(said, wanted[2]) {
			t.Errorf("Generate between talks: %d, not %d", said, wanted[2])
		}
	}
	for i, k := range talks {
		holdSaid(t, "all over", k, wanted[i])
	}
	if run.Place() != 0 {
		t.Errorf("a run of the model, to which nothing was fed, is at place %d", run.Place())
	}
}

// A talk that is behind another one of the same prompt says the same.
func TestP93ATalkStartedLate(t *testing.T) {
	m := grown(t, of(3, 12, 3, 7, 11, 17), 7)
	wanted := reckon(t, m, []int{10, 0, 4}, 15)
	for ahead := range wanted {
		first := begun(t, m, 10, 0, 4)
		for n := range ahead {
			holdNext(t, "the first", first, wanted[:n+1])
		}
		late := begun(t, m, 10, 0, 4)
		for n := range wanted {
			holdNext(t, "the late one", late, wanted[:n+1])
		}
		holdSaid(t, "the first", first, wanted[:ahead])
	}
}

func TestP94Prefix(t *testing.T) {
	for _, c := range []struct {
		a, b   []int
		wanted bool
	}{
		{nil, nil, true}, {nil, []int{}, true}, {[]int{}, nil, true}, {[]int{}, []int{}, true},
		{nil, []int{0}, true}, {[]int{}, []int{1, 2}, true}, {[]int{0}, nil, false}, {[]int{0}, []int{}, false},
		{[]int{0}, []int{0}, true}, {[]int{0}, []int{1}, false}, {[]int{0}, []int{0, 0}, true}, {[]int{0, 0}, []int{0}, false},
		{[]int{1, 2, 3}, []int{1, 2, 3}, true}, {[]int{1, 2, 3}, []int{1, 2, 3, 4}, true}, {[]int{1, 2, 3, 4}, []int{1, 2, 3}, false},
		{[]int{9, 2, 3}, []int{1, 2, 3, 4}, false}, {[]int{1, 9, 3}, []int{1, 2, 3, 4}, false}, {[]int{1, 2, 9}, []int{1, 2, 3, 4}, false},
		{[]int{2, 3}, []int{1, 2, 3}, false}, {[]int{3, 2, 1}, []int{1, 2, 3}, false},
		{[]int{math.MinInt}, []int{math.MinInt, math.MaxInt}, true}, {[]int{1}, []int{1 << 32, 1}, false}, {[]int{-1}, []int{math.MaxInt}, false},
	} {
		if got := Prefix(c.a, c.b); got != c.wanted {
			t.Errorf("Prefix(%d, %d): %t", c.a, c.b, got)
		}
	}
}

// What stands in a row's spare room isn't part of it.
func TestP94PrefixOfRowsWithSpareRoom(t *testing.T) {
	all := []int{1, 2, 3, 4, 5}
	for n := range 6 {
		for m := range 6 {
			if got := Prefix(all[:n], all[:m]); got != (n <= m) {
				t.Errorf("Prefix(%d, %d): %t", all[:n], all[:m], got)
			}
		}
	}
	if !slices.Equal(all, []int{1, 2, 3, 4, 5}) {
		t.Errorf("Prefix changed what was handed in: %d", all)
	}
}

func TestP94ASmallerMostIsHowAGreaterOneBegins(t *testing.T) {
	next := steady(55)
	for _, s := range []api.Shape{of(1, 4, 1, 3, 5, 8), of(2, 8, 2, 6, 7, 9), of(3, 12, 3, 7, 11, 17), of(1, 2, 1, 1, 1, 4)} {
		m := grown(t, s, next())
		for n := 1; n <= s.Places; n += 2 {
			prompt := someTokens(next, s, n)
			all := generated(t, m, prompt, room(m, n))
			k := begun(t, m, prompt...)
			for most := 1; most <= len(all); most++ {
				said := generated(t, m, prompt, most)
				if len(said) != most || !Prefix(said, all) {
					t.Errorf("%v: behind %d, most %d: %d, and all are %d", s, prompt, most, said, all)
				}
				holdNext(t, "a talk says what Generate says", k, said)
			}
			holdOver(t, "a talk says what Generate says", k, all)
		}
	}
}

func TestP94ItGoesOnBehindWhatWasSaid(t *testing.T) {
	next := steady(56)
	for _, s := range []api.Shape{of(1, 4, 1, 3, 5, 8), of(2, 8, 2, 6, 7, 9), of(3, 12, 3, 7, 11, 17)} {
		m := grown(t, s, next())
		prompt := someTokens(next, s, 2)
		all := generated(t, m, prompt, room(m, 2))
		for n := range all {
			longer := slices.Concat(prompt, all[:n])
			if said := generated(t, m, longer, len(all)-n); !slices.Equal(said, all[n:]) {
				t.Errorf("%v: behind %d: %d, not %d", s, longer, said, all[n:])
			}
			k := begun(t, m, longer...)
			for i := range all[n:] {
				holdNext(t, "a talk goes on", k, all[n:n+i+1])
			}
			holdOver(t, "a talk goes on", k, all[n:])
		}
	}
}

// spoil changes each number of a list, its spare room with it.
func spoil(xs []int) {
	xs = xs[:cap(xs)]
	for i := range xs {
		xs[i] = ^xs[i]
	}
}

func TestP94AnswersAreNewMemory(t *testing.T) {
	m := grown(t, of(2, 8, 2, 6, 7, 9), 42)
	prompt := []int{4, 2}
	wanted := reckon(t, m, prompt, 8)
	k, other := begun(t, m, prompt...), begun(t, m, prompt...)
	spoil(k.Said())
	for n := range wanted {
		early := k.Said()
		holdNext(t, "a talk", k, wanted[:n+1])
		if !slices.Equal(early, wanted[:n]) {
			t.Errorf("Next changed an answer of Said: %d, not %d", early, wanted[:n])
		}
		one, two := k.Said(), k.Said()
		spoil(one)
		if !slices.Equal(two, wanted[:n+1]) {
			t.Errorf("two answers of Said share memory: %d, not %d", two, wanted[:n+1])
		}
		holdSaid(t, "behind a change of Said", k, wanted[:n+1])
		said, again := generated(t, m, prompt, n+1), generated(t, m, prompt, n+1)
		spoil(said)
		if !slices.Equal(again, wanted[:n+1]) {
			t.Errorf("two answers of Generate share memory: %d, not %d", again, wanted[:n+1])
		}
		if later := generated(t, m, prompt, n+1); !slices.Equal(later, wanted[:n+1]) {
			t.Errorf("a change of an answer changed a later one: %d, not %d", later, wanted[:n+1])
		}
		holdNext(t, "another talk", other, wanted[:n+1])
	}
	spoil(k.Said())
	holdOver(t, "a talk", k, wanted)
	holdOver(t, "another talk", other, wanted)
}

func TestP94WhatIsHandedInIsNeitherChangedNorKept(t *testing.T) {
	m := grown(t, of(2, 8, 2, 6, 7, 9), 42)
	for n := 1; n <= 9; n++ {
		// Behind the prompt there is spare room, in which nothing may be written.
		whole := []int{3, 0, 6, 1, 1, 2, 5, 4, 0, 77, 78, 79}
		was := slices.Clone(whole)
		prompt := whole[:n]
		wanted := reckon(t, m, slices.Clone(prompt), room(m, n))
		if said := generated(t, m, prompt, len(wanted)); !slices.Equal(said, wanted) {
			t.Errorf("behind %d: %d, not %d", prompt, said, wanted)
		}
		Check(m.Shape(), prompt, 1)
		over, fresh := begun(t, m, prompt...), begun(t, m, prompt...)
		for i := range wanted {
			holdNext(t, "ahead of a change of the prompt", over, wanted[:i+1])
		}
		refuse(t, m, prompt, len(wanted)+1, api.ErrFull)
		holdOver(t, "ahead of a change of the prompt", over, wanted)
		if !slices.Equal(whole, was) {
			t.Fatalf("a prompt that was handed in is changed: %d, and was %d", whole, was)
		}
		spoil(whole)
		for i := range wanted {
			holdNext(t, "behind a change of the prompt", fresh, wanted[:i+1])
			spoil(whole)
		}
		holdSaid(t, "behind a change of the prompt", over, wanted)
	}
}

// What is refused between two calls of Next does nothing to the talk.
func TestP94WhatWasRefusedChangesNothing(t *testing.T) {
	m := grown(t, of(1, 4, 1, 3, 5, 8), 3)
	wanted := reckon(t, m, []int{1, 4}, 7)
	k := begun(t, m, 1, 4)
	for n := range wanted {
		refuseBegin(t, m, api.ErrEmpty)
		refuseBegin(t, m, api.ErrArg, 1, 5)
		refuseBegin(t, m, api.ErrFull, make([]int, 9)...)
		refuse(t, m, []int{1, 4}, 8, api.ErrFull)
		refuse(t, m, []int{1, 4}, 0, api.ErrArg)
		refuse(t, nil, []int{1, 4}, 7, api.ErrNil)
		holdNext(t, "between refusals", k, wanted[:n+1])
	}
	holdOver(t, "between refusals", k, wanted)
}
