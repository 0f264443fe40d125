package cache

import (
	"fmt"
	"math"
	"slices"
	"testing"

	"peloton/api"
)

// steady answers numbers by a fixed rule, so that a test is the same each time.
func steady(seed uint64) func() uint64 {
	return func() uint64 {
		seed = seed*6364136223846793005 + 1442695040888963407
		return seed ^ seed>>29
	}
}

// spot is a request's place in a layer.
func spot(request, layer, place int) api.Spot {
	return api.Spot{Request: request, Layer: layer, Place: place}
}

// row is one of n numbers that hang on what it is for.
func row(n int, of ...int) []int8 {
	seed := uint64(n)
	for _, x := range of {
		seed = seed*1000003 + uint64(x)
	}
	next := steady(seed)
	out := make([]int8, n)
	for i := range out {
		out[i] = int8(next() >> 16)
	}
	return out
}

// keysOf and valuesOf are what the tests lay at a spot, where nothing else is said.
func keysOf(at api.Spot) []int8   { return row(3, 1, at.Request, at.Layer, at.Place) }
func valuesOf(at api.Spot) []int8 { return row(3, 2, at.Request, at.Layer, at.Place) }

// store is an empty one.
func store(t *testing.T, room int) *Store {
	t.Helper()
	s, e := New(room)
	if s == nil || e != api.OK {
		t.Fatalf("New(%d): %v, %d", room, s, e)
	}
	return s
}

// put lays the tests' own keys and values at spots.
func put(t *testing.T, s *Store, ats ...api.Spot) {
	t.Helper()
	for _, at := range ats {
		holdPut(t, s, api.OK, at, keysOf(at), valuesOf(at))
	}
}

// holdPut asks what Put says.
func holdPut(t *testing.T, s *Store, want api.Errno, at api.Spot, k, v []int8) {
	t.Helper()
	if e := s.Put(at, k, v); e != want {
		t.Fatalf("Put(%v, %v, %v): %d, want %d", at, k, v, e, want)
	}
}

// holdGet asks what is at a spot.
func holdGet(t *testing.T, s *Store, at api.Spot, k, v []int8) {
	t.Helper()
	if gotK, gotV, ok := s.Get(at); !ok || !slices.Equal(gotK, k) || !slices.Equal(gotV, v) {
		t.Fatalf("Get(%v): %v, %v, %v, want %v, %v", at, gotK, gotV, ok, k, v)
	}
}

// holdNone asks that there is nothing at a spot.
func holdNone(t *testing.T, s *Store, ats ...api.Spot) {
	t.Helper()
	for _, at := range ats {
		if k, v, ok := s.Get(at); ok || len(k) != 0 || len(v) != 0 {
			t.Fatalf("Get(%v): %v, %v, %v, want none", at, k, v, ok)
		}
	}
}

// laid is what was laid at a spot.
type laid struct {
	at   api.Spot
	k, v []int8
}

// plain is a store by the chapter's words alone: a list, in which everything is looked for from its start.
type plain struct {
	room int
	all  []laid
}

// find is what stands at a spot, if something does.
func (p *plain) find(at api.Spot) (laid, bool) {
	for _, x := range p.all {
		if x.at == at {
			return x, true
		}
	}
	return laid{}, false
}

// put is what P12.1 says of Put.
func (p *plain) put(at api.Spot, k, v []int8) api.Errno {
	x, there := p.find(at)
	_, ahead := p.find(spot(at.Request, at.Layer, at.Place-1))
	switch {
	case min(at.Request, at.Layer, at.Place) < 0:
		return api.ErrArg
	case len(k) != len(v):
		return api.ErrShape
	case at.Place > 0 && !ahead:
		return api.ErrGap
	case there && slices.Equal(x.k, k) && slices.Equal(x.v, v):
		return api.OK
	case there:
		return api.ErrArg
	case len(p.all) == p.room:
		return api.ErrFull
	}
	p.all = append(p.all, laid{at, slices.Clone(k), slices.Clone(v)})
	return api.OK
}

// drop is what P12.2 says of Drop.
func (p *plain) drop(requests ...int) int {
	var stay []laid
	for _, x := range p.all {
		if !slices.Contains(requests, x.at.Request) {
			stay = append(stay, x)
		}
	}
	gone := len(p.all) - len(stay)
	p.all = stay
	return gone
}

// line is what P12.2 says of Line.
func (p *plain) line(request, layer int) (ks, vs [][]int8) {
	for place := 0; ; place++ {
		x, ok := p.find(spot(request, layer, place))
		if !ok {
			return ks, vs
		}
		ks, vs = append(ks, x.k), append(vs, x.v)
	}
}

// requests are those of P12.2.
func (p *plain) requests() []int {
	var out []int
	for _, x := range p.all {
		if !slices.Contains(out, x.at.Request) {
			out = append(out, x.at.Request)
		}
	}
	slices.Sort(out)
	return out
}

// sameRows: are rows alike?
func sameRows(a, b [][]int8) bool { return slices.EqualFunc(a, b, slices.Equal) }

// holdLine asks for a line.
func holdLine(t *testing.T, s *Store, request, layer int, ks, vs [][]int8) {
	t.Helper()
	if gotK, gotV := s.Line(request, layer); !sameRows(gotK, ks) || !sameRows(gotV, vs) {
		t.Fatalf("Line(%d, %d): %v, %v, want %v, %v", request, layer, gotK, gotV, ks, vs)
	}
}

// holdCounts asks Len, Room and Requests.
func holdCounts(t *testing.T, s *Store, spots, room int, requests ...int) {
	t.Helper()
	if s.Len() != spots || s.Room() != room || !slices.Equal(s.Requests(), requests) {
		t.Fatalf("%d spots in a room of %d, of %v; want %d, %d, %v", s.Len(), s.Room(), s.Requests(), spots, room, requests)
	}
}

// holdAll asks a store for all that a plain one has, and for what is around it.
func holdAll(t *testing.T, s *Store, p *plain) {
	t.Helper()
	holdCounts(t, s, len(p.all), p.room, p.requests()...)
	for _, x := range p.all {
		holdGet(t, s, x.at, x.k, x.v)
		ks, vs := p.line(x.at.Request, x.at.Layer)
		holdLine(t, s, x.at.Request, x.at.Layer, ks, vs)
		for _, near := range near(x.at) {
			if _, there := p.find(near); !there {
				holdNone(t, s, near)
			}
			ks, vs := p.line(near.Request, near.Layer)
			holdLine(t, s, near.Request, near.Layer, ks, vs)
		}
	}
}

// near are the spots beside one.
func near(at api.Spot) []api.Spot {
	var out []api.Spot
	for _, d := range []int{-1, 1} {
		out = append(out, spot(at.Request+d, at.Layer, at.Place), spot(at.Request, at.Layer+d, at.Place), spot(at.Request, at.Layer, at.Place+d))
	}
	return out
}

// below are numbers that no request, layer or place is.
func below() []int {
	return []int{-1, -2, -256, -1 << 20, -1 << 32, -1<<32 + 1, -1 << 62, math.MinInt + 1, math.MinInt}
}

// far are numbers above all that the other tests have.
func far() []int {
	return []int{1 << 8, 1 << 16, 1<<31 - 1, 1 << 31, 1 << 32, 1<<32 + 1, 1 << 40, 1 << 62, math.MaxInt - 1, math.MaxInt}
}

func TestP121NewOfRightRooms(t *testing.T) {
	for _, room := range []int{0, 1, 2, 3, 255, 256, 1 << 10, 1<<20 - 1, 1 << 20} {
		holdCounts(t, store(t, room), 0, room)
	}
}

func TestP121NewOfWrongRooms(t *testing.T) {
	for _, room := range append(below(), 1<<20+1, 1<<20+2, 1<<21, 1<<31, 1<<32, 1<<32+1, 1<<52, 1<<62, math.MaxInt-1, math.MaxInt) {
		if s, e := New(room); s != nil || e != api.ErrArg {
			t.Errorf("New(%d): %v, %d", room, s, e)
		}
	}
}

func TestP121NewIsAStoreOfItsOwn(t *testing.T) {
	a, b := store(t, 2), store(t, 2)
	put(t, a, spot(1, 0, 0))
	put(t, b, spot(2, 0, 0), spot(2, 0, 1))
	holdCounts(t, a, 1, 2, 1)
	holdCounts(t, b, 2, 2, 2)
	a.Clear()
	holdCounts(t, b, 2, 2, 2)
	b.Drop(2)
	put(t, a, spot(2, 0, 0))
	holdNone(t, b, spot(2, 0, 0))
}

func TestP121Example(t *testing.T) {
	s := store(t, 2)
	k, v := []int8{1, -2}, []int8{3, -4}
	holdPut(t, s, api.ErrGap, spot(7, 0, 1), k, v)
	holdPut(t, s, api.OK, spot(7, 0, 0), k, v)
	holdPut(t, s, api.OK, spot(7, 0, 1), v, k)
	holdPut(t, s, api.ErrFull, spot(7, 1, 0), k, v)
	holdPut(t, s, api.OK, spot(7, 0, 0), k, v)
	holdPut(t, s, api.ErrArg, spot(7, 0, 0), k, k)
	holdPut(t, s, api.ErrArg, spot(7, 0, 0), v, k)
	if n := s.Drop(7); n != 2 {
		t.Errorf("Drop(7): %d", n)
	}
	holdCounts(t, s, 0, 2)
}

func TestP121BelowNought(t *testing.T) {
	s, p := store(t, 4), &plain{room: 4}
	for _, at := range []api.Spot{spot(0, 0, 0), spot(0, 0, 1), spot(1, 2, 0)} {
		put(t, s, at)
		p.put(at, keysOf(at), valuesOf(at))
	}
	for _, n := range below() {
		for _, at := range []api.Spot{
			spot(n, 0, 0), spot(0, n, 0), spot(0, 0, n), spot(n, n, 0), spot(n, 0, n), spot(0, n, n), spot(n, n, n),
			spot(n, 2, 1), spot(1, n, 1), spot(1, 2, n), spot(n, 0, 7), spot(0, n, 7), spot(n, math.MaxInt, math.MaxInt), spot(math.MaxInt, n, math.MaxInt), spot(math.MaxInt, math.MaxInt, n),
		} {
			// Beside the lengths, too, and a gap.
			holdPut(t, s, api.ErrArg, at, []int8{1}, []int8{1})
			holdPut(t, s, api.ErrArg, at, []int8{1}, nil)
			holdPut(t, s, api.ErrArg, at, nil, nil)
			holdNone(t, s, at)
			holdAll(t, s, p)
		}
	}
}

func TestP121BelowNoughtInAFullStore(t *testing.T) {
	for _, room := range []int{0, 1} {
		s := store(t, room)
		if room == 1 {
			put(t, s, spot(0, 0, 0))
		}
		for _, at := range []api.Spot{spot(-1, 0, 0), spot(0, -1, 0), spot(0, 0, -1)} {
			holdPut(t, s, api.ErrArg, at, []int8{1}, []int8{1})
			holdPut(t, s, api.ErrArg, at, []int8{1}, []int8{1, 2})
		}
	}
}

func TestP121UnlikeLengths(t *testing.T) {
	s, p := store(t, 2), &plain{room: 2}
	wrong := []struct{ k, v []int8 }{{nil, []int8{0}}, {[]int8{0}, nil}, {[]int8{}, []int8{1}}, {[]int8{1, 2}, []int8{1}}, {[]int8{1}, []int8{1, 2}}, {make([]int8, 256), make([]int8, 255)}, {make([]int8, 1), make([]int8, 257)}}
	ask := func(at api.Spot) {
		t.Helper()
		for _, w := range wrong {
			holdPut(t, s, api.ErrShape, at, w.k, w.v)
			holdAll(t, s, p)
		}
	}
	ask(spot(0, 0, 0))
	ask(spot(0, 0, 1)) // and a gap
	ask(spot(3, 9, math.MaxInt))
	for _, at := range []api.Spot{spot(0, 0, 0), spot(0, 0, 1)} {
		put(t, s, at)
		p.put(at, keysOf(at), valuesOf(at))
	}
	ask(spot(0, 0, 0)) // and others are there
	ask(spot(0, 0, 1))
	ask(spot(0, 0, 2)) // and it is full
	ask(spot(0, 0, 3)) // and both
	ask(spot(1, 0, 0))
	at := spot(0, 0, 0)
	holdPut(t, s, api.ErrShape, at, keysOf(at), valuesOf(at)[:2])
	holdPut(t, s, api.ErrShape, at, keysOf(at)[:2], valuesOf(at))
	holdPut(t, s, api.ErrShape, at, keysOf(at), append(valuesOf(at), 0))
}

func TestP121Gaps(t *testing.T) {
	s, p := store(t, 9), &plain{room: 9}
	lay := func(at api.Spot) {
		t.Helper()
		put(t, s, at)
		p.put(at, keysOf(at), valuesOf(at))
	}
	gap := func(ats ...api.Spot) {
		t.Helper()
		for _, at := range ats {
			holdPut(t, s, api.ErrGap, at, keysOf(at), valuesOf(at))
			holdPut(t, s, api.ErrGap, at, nil, nil)
			holdAll(t, s, p)
		}
	}
	gap(spot(0, 0, 1), spot(0, 0, 2), spot(5, 3, 1), spot(5, 3, 255))
	for _, n := range far() {
		gap(spot(0, 0, n), spot(n, n, n), spot(n, 0, 1), spot(0, n, 1))
	}
	lay(spot(5, 3, 0))
	// What is ahead in another request, or in another layer, is none.
	gap(spot(5, 2, 1), spot(5, 4, 1), spot(4, 3, 1), spot(6, 3, 1), spot(3, 5, 1), spot(5, 3, 2), spot(5, 3, 3), spot(5, 0, 3))
	lay(spot(5, 3, 1))
	gap(spot(5, 3, 3), spot(5, 3, 4), spot(5, 4, 2), spot(6, 3, 2), spot(5, 3, math.MaxInt))
	lay(spot(5, 3, 2))
	lay(spot(5, 4, 0))
	gap(spot(5, 4, 2), spot(5, 4, 3), spot(5, 5, 1))
	s.Drop(5)
	p.drop(5)
	gap(spot(5, 3, 1), spot(5, 3, 2), spot(5, 3, 3), spot(5, 4, 1))
	lay(spot(5, 3, 0))
	s.Clear()
	p.all = nil
	gap(spot(5, 3, 1), spot(5, 3, 2))
}

func TestP121AGapInAFullStore(t *testing.T) {
	s := store(t, 1)
	put(t, s, spot(0, 0, 0))
	for _, at := range []api.Spot{spot(0, 0, 2), spot(0, 1, 1), spot(1, 0, 1), spot(0, 0, math.MaxInt)} {
		holdPut(t, s, api.ErrGap, at, []int8{1}, []int8{1})
	}
	holdPut(t, store(t, 0), api.ErrGap, spot(0, 0, 1), nil, nil)
}

func TestP121Place0NeedsNoneAhead(t *testing.T) {
	s, p := store(t, 64), &plain{room: 64}
	for _, n := range append([]int{0, 1, 2, 77}, far()...) {
		for _, at := range []api.Spot{spot(n, 5, 0), spot(5, n, 0), spot(n, n, 0)} {
			put(t, s, at)
			p.put(at, keysOf(at), valuesOf(at))
		}
	}
	holdAll(t, s, p)
}

// others are keys and values that differ from the given ones, but are as many of each: each alone, or both, in one number or in how many there are.
func others(k, v []int8) [][2][]int8 {
	out := [][2][]int8{{v, k}, {k, k}, {v, v}, {append(slices.Clone(k), 0), append(slices.Clone(v), 0)}, {make([]int8, 300), make([]int8, 300)}}
	if len(k) > 0 {
		out = append(out, [2][]int8{k[:len(k)-1], v[:len(v)-1]}, [2][]int8{k[1:], v[1:]}, [2][]int8{nil, nil}, [2][]int8{{}, {}})
	}
	for i := range k {
		for _, by := range []int8{1, -1, 16, -128} {
			ks, vs := slices.Clone(k), slices.Clone(v)
			ks[i] += by
			vs[i] += by
			out = append(out, [2][]int8{ks, v}, [2][]int8{k, vs}, [2][]int8{ks, vs})
		}
	}
	return out
}

// holdSameAlone asks that of keys and values that are there the same are OK, and others aren't.
func holdSameAlone(t *testing.T, s *Store, p *plain) {
	t.Helper()
	for _, x := range p.all {
		holdPut(t, s, api.OK, x.at, slices.Clone(x.k), slices.Clone(x.v))
		for _, o := range others(x.k, x.v) {
			if slices.Equal(o[0], x.k) && slices.Equal(o[1], x.v) {
				continue
			}
			holdPut(t, s, api.ErrArg, x.at, o[0], o[1])
			holdGet(t, s, x.at, x.k, x.v)
		}
	}
	holdAll(t, s, p)
}

func TestP121WhatIsThereStays(t *testing.T) {
	// Once with room for more, and once full.
	for _, room := range []int{5, 50} {
		s, p := store(t, room), &plain{room: room}
		for i, at := range []api.Spot{spot(0, 0, 0), spot(0, 0, 1), spot(0, 1, 0), spot(4, 0, 0), spot(0, 0, 2)} {
			k, v := row(i, 5, i), row(i, 6, i)
			holdPut(t, s, api.OK, at, k, v)
			p.put(at, k, v)
			holdSameAlone(t, s, p)
		}
	}
}

func TestP121AFullStore(t *testing.T) {
	for _, room := range []int{0, 1, 2, 3, 7, 40} {
		s, p := store(t, room), &plain{room: room}
		for i := range room {
			at := spot(i%3, i%2, i/6)
			put(t, s, at)
			p.put(at, keysOf(at), valuesOf(at))
		}
		for _, at := range []api.Spot{spot(0, 2, 0), spot(3, 0, 0), spot(9, 9, 0), spot(math.MaxInt, math.MaxInt, 0)} {
			holdPut(t, s, api.ErrFull, at, keysOf(at), valuesOf(at))
			holdPut(t, s, api.ErrFull, at, nil, nil)
			holdNone(t, s, at)
		}
		for _, x := range p.all {
			next := spot(x.at.Request, x.at.Layer, x.at.Place+1)
			if _, there := p.find(next); !there {
				holdPut(t, s, api.ErrFull, next, keysOf(next), valuesOf(next))
			}
		}
		holdSameAlone(t, s, p)
	}
}

func TestP121ThereIsRoomAgain(t *testing.T) {
	s := store(t, 3)
	put(t, s, spot(1, 0, 0), spot(1, 0, 1), spot(2, 0, 0))
	holdPut(t, s, api.ErrFull, spot(2, 0, 1), nil, nil)
	s.Drop(1)
	put(t, s, spot(2, 0, 1), spot(2, 0, 2))
	holdPut(t, s, api.ErrFull, spot(2, 0, 3), nil, nil)
	holdCounts(t, s, 3, 3, 2)
	s.Clear()
	put(t, s, spot(2, 0, 0), spot(2, 1, 0), spot(2, 2, 0))
	holdPut(t, s, api.ErrFull, spot(2, 3, 0), nil, nil)
}

func TestP121NoNumbers(t *testing.T) {
	none := [][]int8{nil, {}, make([]int8, 0, 9)}
	for _, k := range none {
		for _, v := range none {
			s := store(t, 2)
			at := spot(3, 4, 0)
			holdPut(t, s, api.OK, at, k, v)
			holdGet(t, s, at, nil, nil)
			holdCounts(t, s, 1, 2, 3)
			holdLine(t, s, 3, 4, [][]int8{nil}, [][]int8{nil})
			for _, sameK := range none {
				for _, sameV := range none {
					holdPut(t, s, api.OK, at, sameK, sameV)
				}
			}
			holdPut(t, s, api.ErrArg, at, []int8{0}, []int8{0})
			put(t, s, spot(3, 4, 1))
			holdPut(t, s, api.ErrFull, spot(3, 4, 2), k, v)
			holdPut(t, s, api.ErrGap, spot(3, 4, 3), k, v)
		}
	}
}

func TestP121RowsOfAnyLength(t *testing.T) {
	s, p := store(t, 20), &plain{room: 20}
	for place, n := range []int{1, 0, 2, 128, 127, 129, 255, 256, 257, 4096, 1<<16 + 1, 0, 3} {
		at := spot(0, 0, place)
		k, v := row(n, 1, n), row(n, 2, n)
		holdPut(t, s, api.OK, at, k, v)
		p.put(at, k, v)
	}
	holdAll(t, s, p)
}

func TestP121NumbersOf8Bits(t *testing.T) {
	var up, down []int8
	for n := -128; n < 128; n++ {
		up, down = append(up, int8(n)), append(down, int8(-1-n))
	}
	s := store(t, 1)
	holdPut(t, s, api.OK, spot(0, 0, 0), up, down)
	holdGet(t, s, spot(0, 0, 0), up, down)
	holdLine(t, s, 0, 0, [][]int8{up}, [][]int8{down})
}

func TestP121TheGreatestRoom(t *testing.T) {
	s := store(t, 1<<20)
	// 64 requests of 16 layers each, and 1024 places.
	for i := range 1 << 20 {
		if e := s.Put(spot(i%64, i/64%16, i/1024), []int8{int8(i)}, []int8{int8(i >> 8)}); e != api.OK {
			t.Fatalf("spot %d: %d", i, e)
		}
	}
	if s.Len() != 1<<20 || len(s.Requests()) != 64 {
		t.Fatal(s.Len(), s.Requests())
	}
	holdPut(t, s, api.ErrFull, spot(64, 0, 0), nil, nil)
	holdPut(t, s, api.ErrFull, spot(0, 0, 1024), nil, nil)
	holdPut(t, s, api.ErrGap, spot(0, 0, 1025), nil, nil)
	holdPut(t, s, api.OK, spot(0, 0, 0), []int8{0}, []int8{0})
	holdPut(t, s, api.OK, spot(63, 15, 1023), []int8{-1}, []int8{-1})
	holdPut(t, s, api.ErrArg, spot(63, 15, 1023), []int8{-1}, []int8{-2})
	ks, vs := s.Line(3, 2)
	if len(ks) != 1024 || len(vs) != 1024 {
		t.Fatal(len(ks), len(vs))
	}
	for place := range 1024 {
		i := place*1024 + 2*64 + 3
		if !slices.Equal(ks[place], []int8{int8(i)}) || !slices.Equal(vs[place], []int8{int8(i >> 8)}) {
			t.Fatalf("place %d: %v, %v", place, ks[place], vs[place])
		}
	}
	if n := s.Drop(3, 64, 60); n != 2*16*1024 || s.Len() != 1<<20-n || len(s.Requests()) != 62 {
		t.Fatal(n, s.Len(), s.Requests())
	}
	holdPut(t, s, api.OK, spot(64, 0, 0), nil, nil)
	s.Clear()
	holdCounts(t, s, 0, 1<<20)
}

// many are spots of so many requests, layers and places, laid in turn: at each place all layers of all requests.
func many(requests, layers, places int) []api.Spot {
	var out []api.Spot
	for place := range places {
		for layer := range layers {
			for request := range requests {
				out = append(out, spot(request*3+1, layer, place))
			}
		}
	}
	return out
}

// filled are a store and a plain one of these spots.
func filled(t *testing.T, room int, ats []api.Spot) (*Store, *plain) {
	t.Helper()
	s, p := store(t, room), &plain{room: room}
	put(t, s, ats...)
	for _, at := range ats {
		p.put(at, keysOf(at), valuesOf(at))
	}
	return s, p
}

func TestP122ManyLaidInTurn(t *testing.T) {
	ats := many(7, 3, 8)
	s, p := filled(t, len(ats), ats)
	holdAll(t, s, p)
	holdCounts(t, s, 7*3*8, 7*3*8, 1, 4, 7, 10, 13, 16, 19)
	for request := 1; request < 22; request += 3 {
		for layer := range 3 {
			var ks, vs [][]int8
			for place := range 8 {
				at := spot(request, layer, place)
				holdGet(t, s, at, keysOf(at), valuesOf(at))
				ks, vs = append(ks, keysOf(at)), append(vs, valuesOf(at))
			}
			holdLine(t, s, request, layer, ks, vs)
		}
	}
}

func TestP122GetOfNone(t *testing.T) {
	empty := store(t, 3)
	s := store(t, 3)
	put(t, s, spot(0, 0, 0), spot(0, 0, 1), spot(2, 1, 0))
	for _, n := range append(append(below(), 2, 3), far()...) {
		for _, at := range []api.Spot{spot(0, 0, n), spot(0, n, 0), spot(n, 0, 0), spot(n, 0, 1), spot(n, n, 0), spot(n, n, n), spot(2, 1, n)} {
			holdNone(t, s, at)
			holdNone(t, empty, at)
		}
	}
	holdNone(t, empty, spot(0, 0, 0))
}

func TestP122LineOfNone(t *testing.T) {
	empty := store(t, 3)
	s := store(t, 3)
	put(t, s, spot(0, 0, 0), spot(0, 0, 1), spot(2, 1, 0))
	for _, n := range append(append(below(), 3, 4), far()...) {
		for _, at := range [][2]int{{0, n}, {n, 0}, {2, n}, {n, 1}, {n, n}, {0, 1}, {1, 0}, {2, 0}} {
			holdLine(t, s, at[0], at[1], nil, nil)
			holdLine(t, empty, at[0], at[1], nil, nil)
		}
	}
	holdLine(t, empty, 0, 0, nil, nil)
}

func TestP122LineIsInOrder(t *testing.T) {
	s := store(t, 300)
	var ks, vs [][]int8
	for place := range 256 {
		k, v := []int8{int8(place), 1}, []int8{-int8(place), 2}
		holdPut(t, s, api.OK, spot(8, 3, place), k, v)
		ks, vs = append(ks, k), append(vs, v)
		holdLine(t, s, 8, 3, ks, vs)
	}
	holdCounts(t, s, 256, 300, 8)
}

func TestP122DropOneByOne(t *testing.T) {
	for _, order := range [][]int{{1, 4, 7, 10}, {10, 7, 4, 1}, {7, 1, 10, 4}} {
		s, p := filled(t, 100, many(4, 3, 2))
		for _, request := range order {
			if n := s.Drop(request); n != 6 {
				t.Fatalf("Drop(%d): %d", request, n)
			}
			p.drop(request)
			holdAll(t, s, p)
			if n := s.Drop(request); n != 0 {
				t.Fatalf("Drop(%d) again: %d", request, n)
			}
		}
		holdCounts(t, s, 0, 100)
	}
}

func TestP122DropOfAnyList(t *testing.T) {
	long := make([]int, 100000)
	for i := range long {
		long[i] = 5 + i%90000
	}
	lists := [][]int{
		nil, {}, {1}, {2}, {1, 1}, {1, 1, 1, 4, 4}, {1, 4}, {4, 1}, {1, 2, 3, 4, 5}, {0, -1, 2}, {1, -1, 4, -4}, {1, 4, 7, 10, 13}, {13, 10, 7, 4, 1, 0},
		below(), far(), append(below(), 7), append(far(), 10, 7), {2, 3, 5, 6}, {1 << 32, 1<<32 + 1, 1<<32 + 4}, long,
	}
	for _, list := range lists {
		s, p := filled(t, 40, many(5, 2, 3))
		want := p.drop(list...)
		if n := s.Drop(list...); n != want {
			t.Fatalf("Drop(%v): %d, want %d", list, n, want)
		}
		holdAll(t, s, p)
		if n := s.Drop(list...); n != 0 {
			t.Fatalf("Drop(%v) again: %d", list, n)
		}
	}
}

func TestP122DropOfUnlikeMany(t *testing.T) {
	s := store(t, 10)
	put(t, s, spot(1, 0, 0), spot(1, 0, 1), spot(1, 9, 0), spot(1, math.MaxInt, 0), spot(2, 0, 0), spot(math.MaxInt, 1, 0), spot(math.MaxInt, 1, 1))
	for _, c := range []struct {
		want int
		list []int
	}{{0, []int{0}}, {4, []int{1}}, {0, nil}, {3, []int{2, math.MaxInt, 2}}, {0, []int{1, 2, math.MaxInt}}} {
		if n := s.Drop(c.list...); n != c.want {
			t.Errorf("Drop(%v): %d, want %d", c.list, n, c.want)
		}
	}
	holdCounts(t, s, 0, 10)
}

func TestP122DropOfAnEmptyStore(t *testing.T) {
	s := store(t, 0)
	if n := s.Drop(); n != 0 {
		t.Error(n)
	}
	if n := s.Drop(0, 0, 1, math.MinInt, math.MaxInt); n != 0 {
		t.Error(n)
	}
	holdCounts(t, s, 0, 0)
}

func TestP122Clear(t *testing.T) {
	empty := store(t, 4)
	empty.Clear()
	holdCounts(t, empty, 0, 4)
	put(t, empty, spot(0, 0, 0))
	holdCounts(t, empty, 1, 4, 0)

	ats := many(4, 3, 2)
	s, p := filled(t, len(ats), ats)
	for range 3 {
		s.Clear()
		holdCounts(t, s, 0, len(ats))
		holdNone(t, s, ats...)
		for _, at := range ats {
			holdLine(t, s, at.Request, at.Layer, nil, nil)
		}
		s.Clear()
		put(t, s, ats...)
		holdAll(t, s, p)
	}
}

func TestP122LaidAnew(t *testing.T) {
	ways := map[string]func(s *Store){"dropped": func(s *Store) { s.Drop(1, 4) }, "cleared": (*Store).Clear}
	for name, away := range ways {
		ats := many(2, 2, 3)
		s, _ := filled(t, len(ats), ats)
		away(s)
		p := &plain{room: len(ats)}
		slices.SortStableFunc(ats, func(a, b api.Spot) int { return b.Request - a.Request })
		for i, at := range ats {
			k, v := row(i, 8), row(i, 9)
			if e := s.Put(at, k, v); e != api.OK {
				t.Fatalf("%s: %v: %d", name, at, e)
			}
			p.put(at, k, v)
			holdAll(t, s, p)
		}
		holdSameAlone(t, s, p)
	}
}

func TestP122RequestsRise(t *testing.T) {
	for _, order := range [][]int{{1, 2, 3}, {3, 2, 1}, {2, 3, 1}, {1, 3, 2}, {5, 0, 9, 2, math.MaxInt, 7, 1 << 32, 1, 1<<32 + 1, 300}, far()} {
		s := store(t, 100)
		var want []int
		for _, request := range order {
			put(t, s, spot(request, 3, 0), spot(request, 0, 0), spot(request, 0, 1), spot(request, 3, 1))
			want = append(want, request)
			slices.Sort(want)
			holdCounts(t, s, 4*len(want), 100, want...)
		}
		for _, request := range order {
			s.Drop(request)
			want = slices.DeleteFunc(want, func(x int) bool { return x == request })
			holdCounts(t, s, 4*len(want), 100, want...)
		}
	}
}

func TestP122WhatWasRefusedHasNoRequest(t *testing.T) {
	s := store(t, 1)
	s.Put(spot(1, 0, 1), nil, nil)
	s.Put(spot(2, 0, 0), nil, []int8{1})
	s.Put(spot(3, 0, -1), nil, nil)
	holdCounts(t, s, 0, 1)
	put(t, s, spot(4, 0, 0))
	s.Put(spot(5, 0, 0), nil, nil)
	holdCounts(t, s, 1, 1, 4)
}

// step does one thing, whatever it is, to a store and a plain one, and asks that both say the same.
func step(t *testing.T, s *Store, p *plain, next func() uint64) {
	t.Helper()
	pick := func(n int) int { return int(next()>>20) % n }
	switch pick(40) {
	case 0:
		s.Clear()
		p.all = nil
	case 1, 2:
		list := make([]int, pick(4))
		for i := range list {
			list[i] = pick(6) - 1
		}
		if got, want := s.Drop(list...), p.drop(list...); got != want {
			t.Fatalf("Drop(%v): %d, want %d", list, got, want)
		}
	default:
		at := spot(pick(20)/4, pick(9)/4, pick(9)/2)
		if pick(30) == 0 {
			at = spot(at.Request-pick(2), at.Layer-pick(2), at.Place-pick(2))
		}
		k, v := row(pick(3), pick(2)), row(pick(3), pick(2))
		if pick(8) > 0 {
			k, v = row(2, at.Place, pick(10)/9), row(2, at.Layer)
		}
		holdPut(t, s, p.put(at, k, v), at, k, v)
	}
}

func TestP123AsThePlainOne(t *testing.T) {
	for _, room := range []int{0, 1, 2, 5, 17, 60} {
		for seed := range uint64(6) {
			s, p := store(t, room), &plain{room: room}
			next := steady(seed*100 + uint64(room))
			for range 300 {
				step(t, s, p, next)
				if s.Len() > room {
					t.Fatalf("room %d: %d spots", room, s.Len())
				}
				holdAll(t, s, p)
			}
		}
	}
}

func TestP123NoMoreThanTheRoom(t *testing.T) {
	for _, room := range []int{0, 1, 2, 9} {
		s := store(t, room)
		for i := range 3 * (room + 1) {
			want := api.OK
			if i >= room {
				want = api.ErrFull
			}
			holdPut(t, s, want, spot(i, i%5, 0), []int8{int8(i)}, []int8{0})
			if s.Len() != min(i+1, room) || s.Room() != room {
				t.Fatal(s.Len(), s.Room())
			}
		}
	}
}

func TestP123LinesHaveNoGaps(t *testing.T) {
	s := store(t, 50)
	next := steady(5)
	for range 3000 {
		s.Put(spot(int(next()>>30%3), int(next()>>30%3), int(next()>>30%12)), nil, nil)
	}
	total := 0
	for request := range 3 {
		for layer := range 3 {
			ks, vs := s.Line(request, layer)
			for place := range 12 {
				if _, _, ok := s.Get(spot(request, layer, place)); ok != (place < len(ks)) {
					t.Fatal(request, layer, place, len(ks))
				}
			}
			if len(ks) != len(vs) {
				t.Fatal(len(ks), len(vs))
			}
			total += len(ks)
		}
	}
	if total != s.Len() || total != 50 {
		t.Fatal(total, s.Len())
	}
}

// roomy is a copy of a list that has spare room behind it, which is filled.
func roomy(list []int8) []int8 {
	long := append(slices.Clone(list), 101, 102, 103, 104)
	return long[:len(list)]
}

func TestP123WhatIsHandedInStays(t *testing.T) {
	s := store(t, 3)
	k, v := roomy([]int8{1, 2, 3}), roomy([]int8{4, 5, 6})
	asked := func() {
		t.Helper()
		if !slices.Equal(k[:7], []int8{1, 2, 3, 101, 102, 103, 104}) || !slices.Equal(v[:7], []int8{4, 5, 6, 101, 102, 103, 104}) {
			t.Fatal(k[:7], v[:7])
		}
	}
	for _, at := range []api.Spot{spot(1, 0, 0), spot(1, 0, 0), spot(1, 0, 1), spot(1, 0, 3), spot(-1, 0, 0), spot(1, 1, 0), spot(1, 2, 0)} {
		s.Put(at, k, v)
		asked()
	}
	s.Put(spot(1, 0, 0), v, k)
	s.Put(spot(1, 0, 0), k, v[:2])
	asked()
	for range 3 {
		s.Get(spot(1, 0, 0))
		s.Line(1, 0)
	}
	s.Drop(1)
	s.Clear()
	asked()
}

func TestP123WhatIsHandedInIsNotKept(t *testing.T) {
	s := store(t, 9)
	k, v := roomy([]int8{1, 2, 3}), roomy([]int8{4, 5, 6})
	holdPut(t, s, api.OK, spot(1, 0, 0), k, v)
	holdPut(t, s, api.OK, spot(1, 0, 1), v, k)
	holdPut(t, s, api.OK, spot(1, 0, 2), k, k)
	holdPut(t, s, api.OK, spot(1, 0, 0), k, v)
	for i := range k[:7] {
		k[:7][i], v[:7][i] = 99, 98
	}
	a, b := []int8{1, 2, 3}, []int8{4, 5, 6}
	holdGet(t, s, spot(1, 0, 0), a, b)
	holdLine(t, s, 1, 0, [][]int8{a, b, a}, [][]int8{b, a, a})
	holdPut(t, s, api.ErrArg, spot(1, 0, 0), k, v)
	holdPut(t, s, api.OK, spot(1, 0, 0), a, b)
}

func TestP123DropLeavesItsList(t *testing.T) {
	s, _ := filled(t, 40, many(5, 2, 3))
	list := []int{7, 1, 7, -3, 2, 4, 1, 10, 13}
	s.Drop(list[:6]...)
	s.Drop(list[:0]...)
	if !slices.Equal(list, []int{7, 1, 7, -3, 2, 4, 1, 10, 13}) {
		t.Error(list)
	}
	list[0] = 10
	holdCounts(t, s, 12, 40, 10, 13)
}

// spoil writes into a list and its spare room.
func spoil(list []int8, by int8) {
	for i := range list[:cap(list)] {
		list[:cap(list)][i] = by
	}
}

func TestP123AnswersAreNewMemory(t *testing.T) {
	ats := []api.Spot{spot(1, 0, 0), spot(1, 0, 1), spot(1, 0, 2), spot(3, 0, 0), spot(2, 1, 0)}
	s, p := filled(t, 5, ats)
	for range 2 {
		for _, at := range ats {
			k, v, _ := s.Get(at)
			spoil(k, 91)
			spoil(v, 92)
			holdAll(t, s, p)
			ks, vs := s.Line(at.Request, at.Layer)
			for i := range ks {
				spoil(ks[i], 93)
				spoil(vs[i], 94)
			}
			clear(ks[:cap(ks)])
			clear(vs[:cap(vs)])
			holdAll(t, s, p)
		}
		requests := s.Requests()
		clear(requests[:cap(requests)])
		holdAll(t, s, p)
	}
}

func TestP123WhatIsAnsweredStays(t *testing.T) {
	at := spot(1, 0, 0)
	s := store(t, 2)
	put(t, s, at, spot(1, 0, 1))
	k, v, _ := s.Get(at)
	ks, vs := s.Line(1, 0)
	requests := s.Requests()
	s.Drop(1)
	for _, at := range []api.Spot{at, spot(1, 0, 1)} {
		holdPut(t, s, api.OK, at, []int8{9, 9, 9}, []int8{8, 8, 8})
	}
	s.Clear()
	put(t, s, spot(5, 0, 0))
	if !slices.Equal(k, keysOf(at)) || !slices.Equal(v, valuesOf(at)) || !slices.Equal(requests, []int{1}) {
		t.Error(k, v, requests)
	}
	two := spot(1, 0, 1)
	if !sameRows(ks, [][]int8{keysOf(at), keysOf(two)}) || !sameRows(vs, [][]int8{valuesOf(at), valuesOf(two)}) {
		t.Error(ks, vs)
	}
}

// noneShared: does no list reach into another, its spare room included?
func noneShared(lists ...[]int8) bool {
	for i, list := range lists {
		spoil(list, int8(i))
	}
	for i, list := range lists {
		for _, x := range list[:cap(list)] {
			if x != int8(i) {
				return false
			}
		}
	}
	return true
}

func TestP123ListsOfOneAnswerShareNothing(t *testing.T) {
	// One list is handed in as keys and as values, at all places; and no list has anything ahead of it.
	whole := roomy(row(5, 1))
	s := store(t, 9)
	for place := range 9 {
		holdPut(t, s, api.OK, spot(1, 0, place), whole[:place%6], whole[:place%6])
	}
	for place := range 9 {
		k, v, _ := s.Get(spot(1, 0, place))
		if !noneShared(k, v) {
			t.Errorf("place %d: shared", place)
		}
	}
	ks, vs := s.Line(1, 0)
	if !noneShared(slices.Concat(ks, vs)...) {
		t.Error("rows are shared")
	}
	ks = append(ks, nil)
	vs = append(vs, []int8{1})
	if ks[9] != nil || &ks[0] == &vs[0] {
		t.Error("lists are shared")
	}
}

func TestP123ErrorsChangeNothing(t *testing.T) {
	ats := many(2, 2, 2)
	s, p := filled(t, len(ats), ats)
	for _, c := range []struct {
		at   api.Spot
		k, v []int8
		want api.Errno
	}{
		{spot(-1, 0, 0), []int8{1}, []int8{1}, api.ErrArg},
		{spot(1, -1, 0), []int8{1}, []int8{1}, api.ErrArg},
		{spot(1, 0, -1), []int8{1}, []int8{1}, api.ErrArg},
		{spot(1, 0, 0), []int8{1}, []int8{1, 2}, api.ErrShape},
		{spot(1, 0, 3), []int8{1}, []int8{1}, api.ErrGap},
		{spot(1, 0, 0), []int8{1}, []int8{1}, api.ErrArg},
		{spot(1, 0, 2), []int8{1}, []int8{1}, api.ErrFull},
		{spot(9, 0, 0), []int8{1}, []int8{1}, api.ErrFull},
	} {
		for range 2 {
			holdPut(t, s, c.want, c.at, c.k, c.v)
			holdAll(t, s, p)
		}
	}
	holdSameAlone(t, s, p)
}

func TestP123AskingChangesNothing(t *testing.T) {
	s, p := filled(t, 30, many(3, 2, 4))
	for range 3 {
		holdAll(t, s, p)
		s.Drop()
		s.Drop(2, 3, -1)
	}
	put(t, s, spot(1, 0, 4))
}

func TestP123NothingElseIsKept(t *testing.T) {
	// What was there before, in this store or in another one, isn't to be told.
	fresh, _ := filled(t, 12, many(2, 2, 2))
	used := store(t, 12)
	put(t, used, many(3, 2, 2)...)
	used.Drop(1, 7)
	used.Clear()
	put(t, used, many(2, 2, 2)...)
	tell := func(s *Store) string {
		out := fmt.Sprint(s.Len(), s.Room(), s.Requests())
		for _, at := range many(3, 3, 3) {
			k, v, ok := s.Get(at)
			ks, vs := s.Line(at.Request, at.Layer)
			out += fmt.Sprint(at, k, v, ok, ks, vs)
		}
		return out + fmt.Sprint(s.Drop(1), s.Drop(4))
	}
	if a, b := tell(fresh), tell(used); a != b {
		t.Errorf("%s, %s", a, b)
	}
}

func TestP123NoCallPanics(t *testing.T) {
	numbers := append(append(below(), 0, 1, 2), far()...)
	for _, room := range numbers {
		s, e := New(room)
		if e != api.OK {
			continue
		}
		for _, a := range numbers {
			for _, b := range numbers {
				for _, at := range []api.Spot{spot(a, b, 0), spot(a, 0, b), spot(0, a, b), spot(a, b, b)} {
					s.Put(at, []int8{1}, []int8{1})
					s.Put(at, nil, []int8{1})
					s.Get(at)
				}
				s.Line(a, b)
			}
			s.Drop(a, a)
		}
		s.Drop(numbers...)
		s.Requests()
		s.Clear()
	}
}
