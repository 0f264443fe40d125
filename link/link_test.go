package link

import (
	"bytes"
	"encoding/binary"
	"fmt"
	"hash/crc32"
	"maps"
	"math"
	"slices"
	"strings"
	"testing"

	"peloton/api"
)

// steady answers numbers by a fixed rule, so that a test is the same each time.
func steady(seed uint64) func() uint64 {
	return func() uint64 {
		seed = seed*6364136223846793005 + 1442695040888963407
		return seed ^ seed>>29
	}
}

// someBytes are n bytes that hang on a seed.
func someBytes(seed uint64, n int) []byte {
	next := steady(seed)
	b := make([]byte, n)
	for i := range b {
		b[i] = byte(next() >> 16)
	}
	return b
}

// spoil turns all bytes, those in the spare room, too.
func spoil(bs ...[]byte) {
	for _, b := range bs {
		b = b[:cap(b)]
		for i := range b {
			b[i] ^= 0xFF
		}
	}
}

// wrongNumbers are those below 0; greatNumbers those from MaxNum on.
func wrongNumbers() []int {
	return []int{-1, -2, -256, -1 << 32, -1 << 40, -1<<40 + 1, -1 << 62, math.MinInt + 1, math.MinInt}
}
func greatNumbers() []int {
	return []int{1 << 40, 1<<40 + 1, 1 << 41, 1<<48 + 1, 1 << 62, math.MaxInt - 1, math.MaxInt}
}

// plain is a link by the chapter's words alone: it has all that was in its epoch, and looks through it from the start.
type plain struct {
	window, span, room, epoch int

	now   int            // how many ticks came
	asked [][]byte       // what it was asked to send: number 1, 2, 3 ..
	went  map[int]int    // by number: the tick at which it was sent last
	came  map[int][]byte // by number: what was kept of the other side's
	acked int
	got   int
	owes  bool
}

// plainNew is a plain link.
func plainNew(window, span, room, epoch int) *plain {
	return &plain{window: window, span: span, room: room, epoch: epoch, went: map[int]int{}, came: map[int][]byte{}}
}

// greatest is the greatest number that was sent.
func (p *plain) greatest() int {
	n := 0
	for number := range p.went {
		n = max(n, number)
	}
	return n
}

// left is how many bodies aren't known to have come.
func (p *plain) left() int { return len(p.asked) - p.acked }

// early is how many bodies came early, and have a gap ahead of them still.
func (p *plain) early() int {
	n := 0
	for number := range p.came {
		if number > p.got {
			n++
		}
	}
	return n
}

// send is what P16.1 says of Send.
func (p *plain) send(bodies ...[]byte) api.Errno {
	for _, b := range bodies {
		if len(b) > 65536 {
			return api.ErrLong
		}
	}
	if p.left()+len(bodies) > p.room {
		return api.ErrFull
	}
	for _, b := range bodies {
		p.asked = append(p.asked, slices.Clone(b))
	}
	return api.OK
}

// tick is what P16.2 says of Tick.
func (p *plain) tick() []api.Seg {
	p.now++
	var segs []api.Seg
	for i, body := range p.asked {
		number := i + 1
		at, sent := p.went[number]
		mayGo := number > p.acked && number <= p.acked+p.window
		if mayGo && (!sent || p.now-at >= p.span) {
			p.went[number] = p.now
			segs = append(segs, api.Seg{Epoch: p.epoch, Seq: number, Ack: p.got, Body: body})
		}
	}
	if len(segs) == 0 && p.owes {
		segs = []api.Seg{{Epoch: p.epoch, Ack: p.got}}
	}
	p.owes = false
	return segs
}

// hear is what P16.3 says of Hear.
func (p *plain) hear(s api.Seg) ([][]byte, api.Errno) {
	switch {
	case s.Epoch != p.epoch:
		return nil, api.ErrEpoch
	case s.Ack < 0, s.Ack > p.greatest(), s.Seq < 0, s.Seq == 0 && len(s.Body) > 0:
		return nil, api.ErrForm
	}
	p.acked = max(p.acked, s.Ack)
	if s.Seq == 0 {
		return nil, api.OK
	}
	p.owes = true
	if _, early := p.came[s.Seq]; !early && s.Seq > p.got && s.Seq <= p.got+p.window {
		p.came[s.Seq] = slices.Clone(s.Body)
	}
	var answer [][]byte
	for {
		body, there := p.came[p.got+1]
		if !there {
			return answer, api.OK
		}
		answer = append(answer, body)
		p.got++
	}
}

// reset is what P16.4 says of Reset.
func (p *plain) reset(epoch int) api.Errno {
	if epoch <= p.epoch || epoch >= 1099511627776 {
		return api.ErrEpoch
	}
	*p = *plainNew(p.window, p.span, p.room, epoch)
	return api.OK
}

// side is a link, and the plain one beside it: each call is made of both, and both must answer the same.
type side struct {
	t testing.TB
	l *Link
	p *plain
}

// newSide is a link at its beginning.
func newSide(t testing.TB, window, span, room int) *side {
	t.Helper()
	l, e := New(window, span, room)
	if l == nil || e != api.OK {
		t.Fatalf("New(%d, %d, %d): %v, error %d", window, span, room, l, e)
	}
	s := &side{t, l, plainNew(window, span, room, 0)}
	s.look()
	return s
}

// look asks Left, Got and Epoch; and that no more is kept than what came early, as no answer would tell that.
func (s *side) look() {
	s.t.Helper()
	if s.l.Left() != s.p.left() || s.l.Got() != s.p.got || s.l.Epoch() != s.p.epoch {
		s.t.Fatalf("Left %d, Got %d, Epoch %d; want %d, %d, %d", s.l.Left(), s.l.Got(), s.l.Epoch(), s.p.left(), s.p.got, s.p.epoch)
	}
	if n := len(s.l.early); n != s.p.early() || n > s.p.window {
		s.t.Fatalf("%d bodies are kept that came early, want %d; the window is %d", n, s.p.early(), s.p.window)
	}
}

// send asks for bodies to be sent.
func (s *side) send(want api.Errno, bodies ...[]byte) {
	s.t.Helper()
	plainly := s.p.send(bodies...)
	if e := s.l.Send(bodies...); e != want || e != plainly {
		s.t.Fatalf("Send of %d bodies: error %d, want %d, plainly %d", len(bodies), e, want, plainly)
	}
	s.look()
}

// texts has short bodies sent.
func (s *side) texts(bodies ...string) {
	s.t.Helper()
	s.send(api.OK, bodiesOf(bodies...)...)
}

// ticks lets one come: what is sent.
func (s *side) ticks() []api.Seg {
	s.t.Helper()
	want, segs := s.p.tick(), s.l.Tick()
	if !slices.EqualFunc(segs, want, sameSeg) {
		s.t.Fatalf("Tick: %s; want %s", segsText(segs), segsText(want))
	}
	s.look()
	return segs
}

// tick lets one come, and asks for what is sent, as segsText tells it.
func (s *side) tick(want string) {
	s.t.Helper()
	if text := segsText(s.ticks()); text != want {
		s.t.Fatalf("Tick: %q, want %q", text, want)
	}
}

// idle lets n ticks come, at which nothing is sent.
func (s *side) idle(n int) {
	s.t.Helper()
	for range n {
		s.tick("")
	}
}

// hears lets it hear a segment: what came.
func (s *side) hears(x api.Seg) ([][]byte, api.Errno) {
	s.t.Helper()
	want, wantE := s.p.hear(x)
	came, e := s.l.Hear(x)
	if e != wantE || !sameBodies(came, want) {
		s.t.Fatalf("Hear(%s): %s, error %d; want %s, error %d", segText(x), bodiesText(came), e, bodiesText(want), wantE)
	}
	s.look()
	return came, e
}

// hear lets it hear a segment of its epoch, and asks for what came, as bodiesText tells it.
func (s *side) hear(seq, ack int, body string, want string) {
	s.t.Helper()
	x := api.Seg{Epoch: s.l.Epoch(), Seq: seq, Ack: ack, Body: []byte(body)}
	if came, e := s.hears(x); e != api.OK || bodiesText(came) != want {
		s.t.Fatalf("Hear(%s): %q, error %d; want %q", segText(x), bodiesText(came), e, want)
	}
}

// refuse asks for an error of Hear.
func (s *side) refuse(x api.Seg, want api.Errno) {
	s.t.Helper()
	if came, e := s.hears(x); e != want || len(came) != 0 {
		s.t.Fatalf("Hear(%s): %s, error %d; want error %d", segText(x), bodiesText(came), e, want)
	}
}

// reset begins an epoch.
func (s *side) reset(epoch int, want api.Errno) {
	s.t.Helper()
	plainly := s.p.reset(epoch)
	if e := s.l.Reset(epoch); e != want || e != plainly {
		s.t.Fatalf("Reset(%d): error %d, want %d, plainly %d", epoch, e, want, plainly)
	}
	s.look()
}

// probe makes calls that show all that the link has: what it kept, owes and sent, when, and what its numbers are.
func (s *side) probe() {
	s.t.Helper()
	for range s.p.span + 2 {
		s.ticks()
	}
	for seq := s.p.got + s.p.window + 2; seq > 0; seq-- {
		s.hears(api.Seg{Epoch: s.p.epoch, Seq: seq, Body: fmt.Appendf(nil, "probe %d", seq)})
	}
	s.ticks()
	s.ticks()
	for ack := s.p.acked; ack <= len(s.p.asked)+2; ack++ {
		s.hears(api.Seg{Epoch: s.p.epoch, Ack: ack})
		s.ticks()
	}
	s.send(api.ErrFull, make([][]byte, s.p.room-s.p.left()+1)...)
	s.send(api.OK, make([][]byte, s.p.room-s.p.left())...)
	s.ticks()
}

// sameBodies: are bodies alike?
func sameBodies(a, b [][]byte) bool { return slices.EqualFunc(a, b, bytes.Equal) }

// sameSeg: are segments alike?
func sameSeg(a, b api.Seg) bool {
	return a.Epoch == b.Epoch && a.Seq == b.Seq && a.Ack == b.Ack && bytes.Equal(a.Body, b.Body)
}

// bodiesOf are texts as bodies.
func bodiesOf(texts ...string) [][]byte {
	var out [][]byte
	for _, x := range texts {
		out = append(out, []byte(x))
	}
	return out
}

// short is what a test tells of a body: plain letters as they are.
func short(b []byte) string {
	if len(b) > 20 {
		return fmt.Sprintf("%q and more, %d bytes", b[:20], len(b))
	}
	if slices.ContainsFunc(b, func(x byte) bool { return x < ' ' || x > '~' }) {
		return fmt.Sprintf("%q", b)
	}
	return string(b)
}

// bodiesText tells bodies: [a][b].
func bodiesText(bodies [][]byte) string {
	out := ""
	for _, b := range bodies {
		out += "[" + short(b) + "]"
	}
	return out
}

// segText tells a segment without its epoch: its number, its body, and what it acknowledges.
func segText(s api.Seg) string { return fmt.Sprintf("%d:%s/%d", s.Seq, short(s.Body), s.Ack) }

// segsText tells segments.
func segsText(segs []api.Seg) string {
	var out []string
	for _, s := range segs {
		out = append(out, segText(s))
	}
	return strings.Join(out, " ")
}

// numbered are n bodies, each another one.
func numbered(n int) [][]byte {
	var out [][]byte
	for i := range n {
		out = append(out, fmt.Appendf(nil, "b%d", i+1))
	}
	return out
}

func TestP161NewOfRightOnes(t *testing.T) {
	for _, window := range []int{1, 2, 3, 31, 63, 64} {
		for _, span := range []int{1, 2, 500, 999, 1000} {
			for _, room := range []int{1, 2, 100, 4095, 4096} {
				s := newSide(t, window, span, room)
				if s.l.Left() != 0 || s.l.Got() != 0 || s.l.Epoch() != 0 {
					t.Fatalf("New(%d, %d, %d): Left %d, Got %d, Epoch %d", window, span, room, s.l.Left(), s.l.Got(), s.l.Epoch())
				}
				s.idle(2)
				// The three numbers, each in what it does.
				s.send(api.ErrFull, make([][]byte, room+1)...)
				s.send(api.OK, make([][]byte, room)...)
				if n := len(s.ticks()); n != min(window, room) {
					t.Errorf("New(%d, %d, %d): %d bodies go", window, span, room, n)
				}
				s.idle(span - 1)
				if n := len(s.ticks()); n != min(window, room) {
					t.Errorf("New(%d, %d, %d): behind the span %d bodies go", window, span, room, n)
				}
			}
		}
	}
}

func TestP161NewOfWrongOnes(t *testing.T) {
	far := append(append([]int{0, 5000, 1 << 16, 1 << 32, 1<<32 + 1}, wrongNumbers()...), greatNumbers()...)
	windows := append([]int{65, 66, 128, 1000, 4096}, far...)
	spans := append([]int{1001, 1002, 4096}, far...)
	rooms := append([]int{4097, 4098}, far...)
	refuse := func(window, span, room int) {
		t.Helper()
		if l, e := New(window, span, room); l != nil || e != api.ErrArg {
			t.Errorf("New(%d, %d, %d): %v, error %d", window, span, room, l, e)
		}
	}
	for _, right := range []int{1, 2, 64} {
		for _, n := range windows {
			refuse(n, right, right)
		}
		for _, n := range spans {
			refuse(right, n, right)
		}
		for _, n := range rooms {
			refuse(right, right, n)
		}
	}
	for i, n := range far {
		refuse(n, n, n)
		refuse(n, far[(i+1)%len(far)], 1)
		refuse(1, n, far[(i+3)%len(far)])
		refuse(far[(i+5)%len(far)], 1000, n)
	}
}

func TestP161NewIsALinkOfItsOwn(t *testing.T) {
	a, b := newSide(t, 2, 3, 4), newSide(t, 2, 3, 4)
	a.texts("x", "y", "z")
	a.hear(2, 0, "early", "")
	b.hear(1, 0, "first", "[first]")
	b.tick("0:/1")
	a.tick("1:x/0 2:y/0")
	b.texts("u")
	b.tick("1:u/1")
	b.reset(7, api.OK)
	a.probe()
	b.probe()
}

func TestP161TheNextNumbers(t *testing.T) {
	s := newSide(t, 3, 2, 6)
	s.texts("a")
	s.tick("1:a/0")
	s.texts("b", "c")
	s.texts()
	s.texts("d")
	s.tick("2:b/0 3:c/0")
	s.hear(0, 3, "", "")
	s.texts("e", "f")
	s.tick("4:d/0 5:e/0 6:f/0")
	s.hear(0, 6, "", "")
	s.idle(3)
	s.texts("a", "a")
	s.tick("7:a/0 8:a/0")
}

func TestP161SendOfNoBodies(t *testing.T) {
	s := newSide(t, 1, 1, 2)
	s.send(api.OK)
	s.send(api.OK, [][]byte{}...)
	s.idle(2)
	s.texts("a", "b")
	s.send(api.OK)
	s.send(api.ErrFull, nil)
	s.tick("1:a/0")
	s.send(api.OK)
	s.probe()
}

func TestP161BodiesOfEachLength(t *testing.T) {
	for _, n := range []int{0, 1, 2, 255, 256, 257, 65534, 65535, 65536} {
		s := newSide(t, 2, 1, 2)
		s.send(api.OK, someBytes(uint64(n), n))
		if segs := s.ticks(); len(segs) != 1 || segs[0].Seq != 1 || len(segs[0].Body) != n {
			t.Errorf("a body of %d bytes: %s", n, segsText(segs))
		}
	}
	s := newSide(t, 4, 1, 4)
	s.send(api.OK, nil, []byte{}, []byte("x"), nil)
	s.tick("1:/0 2:/0 3:x/0 4:/0")
	s.hear(0, 3, "", "")
	s.tick("4:/0")
	long := someBytes(1, 300000)
	for _, n := range []int{65537, 65538, 1 << 17, len(long)} {
		s := newSide(t, 2, 1, 2)
		s.send(api.ErrLong, long[:n])
		s.idle(1)
		// Only what a body has counts, not its spare room.
		s.send(api.OK, long[:65536])
		s.send(api.OK, long[len(long)-65536:])
	}
}

func TestP161RoomForSoMany(t *testing.T) {
	for _, room := range []int{1, 2, 3, 7, 64, 100, 4096} {
		for _, first := range []int{0, 1, room / 2, room - 1, room} {
			s := newSide(t, 1, 1, room)
			s.send(api.OK, numbered(first)...)
			s.send(api.ErrFull, numbered(room-first+1)...)
			s.send(api.ErrFull, numbered(room+1)...)
			s.send(api.ErrFull, make([][]byte, 5000)...)
			s.send(api.OK, numbered(room-first)...)
			s.send(api.ErrFull, nil)
			s.send(api.OK)
			if s.l.Left() != room {
				t.Errorf("a room of %d has %d", room, s.l.Left())
			}
		}
	}
}

// What was sent takes room until it is known to have come.
func TestP161RoomThatComesFree(t *testing.T) {
	s := newSide(t, 2, 5, 3)
	s.texts("a", "b", "c")
	s.send(api.ErrFull, []byte("d"))
	s.tick("1:a/0 2:b/0")
	s.send(api.ErrFull, []byte("d"))
	s.hear(0, 1, "", "")
	s.send(api.ErrFull, []byte("d"), []byte("e"))
	s.texts("d")
	s.send(api.ErrFull, []byte("e"))
	s.hear(0, 1, "", "")
	s.send(api.ErrFull, []byte("e"))
	s.hear(0, 2, "", "")
	s.texts("e")
	s.tick("3:c/0 4:d/0")
	s.hear(0, 4, "", "")
	s.send(api.ErrFull, numbered(3)...)
	s.texts("f", "g")
	s.tick("5:e/0 6:f/0")
	s.probe()
}

func TestP161ALongOneAmongOthers(t *testing.T) {
	long := make([]byte, 65537)
	for _, asked := range []int{0, 1, 3} {
		s := newSide(t, 2, 3, 3)
		s.send(api.OK, numbered(asked)...)
		for n := 1; n < 6; n++ {
			for i := range n {
				// With them there may be too many, too: the long one is told first.
				bodies := numbered(n)
				bodies[i] = long
				s.send(api.ErrLong, bodies...)
			}
		}
		s.send(api.ErrLong, long, long)
		s.send(api.OK, numbered(3-asked)...)
		s.probe()
	}
}

func TestP162Example(t *testing.T) {
	s := newSide(t, 2, 3, 9)
	s.texts("a", "b", "c")
	s.tick("1:a/0 2:b/0")
	s.tick("")
	s.tick("")
	s.tick("1:a/0 2:b/0")
	s.hear(0, 1, "", "")
	s.tick("3:c/0")
}

func TestP162SentAgainBehindTheSpan(t *testing.T) {
	for _, span := range []int{1, 2, 3, 4, 10, 999, 1000} {
		s := newSide(t, 2, span, 2)
		s.idle(3)
		s.texts("a")
		s.tick("1:a/0")
		for range 4 {
			s.idle(span - 1)
			s.tick("1:a/0")
		}
		s.hear(0, 1, "", "")
		s.idle(2*span + 2)
	}
}

func TestP162EachBodyHasItsOwnSpan(t *testing.T) {
	s := newSide(t, 4, 4, 8)
	s.texts("a")
	s.tick("1:a/0")
	s.texts("b")
	s.tick("2:b/0")
	s.idle(1)
	s.texts("c")
	s.tick("3:c/0")
	s.texts("d")
	s.tick("1:a/0 4:d/0")
	s.tick("2:b/0")
	s.idle(1)
	s.tick("3:c/0")
	s.hear(0, 1, "", "")
	s.texts("e")
	s.tick("4:d/0 5:e/0")
	s.tick("2:b/0")
	s.hear(0, 3, "", "")
	s.idle(2)
	s.tick("4:d/0 5:e/0")
	s.hear(0, 5, "", "")
	s.idle(9)
}

func TestP162TheWindow(t *testing.T) {
	for _, window := range []int{1, 2, 3, 63, 64} {
		for _, step := range []int{1, 2, window} {
			step = min(step, window)
			s := newSide(t, window, 1000, 300)
			s.send(api.OK, numbered(300)...)
			went := s.ticks()
			if len(went) != window || went[0].Seq != 1 || went[window-1].Seq != window {
				t.Fatalf("window %d: %s", window, segsText(went))
			}
			s.idle(1)
			for acked := step; acked+window <= 300; acked += step {
				s.hear(0, acked, "", "")
				went := s.ticks()
				if len(went) != step || went[0].Seq != acked+window-step+1 || went[step-1].Seq != acked+window {
					t.Fatalf("window %d, acked %d: %s", window, acked, segsText(went))
				}
				s.idle(1)
			}
		}
	}
}

// What the window holds back has not been sent: its span begins when it goes.
func TestP162HeldBackByTheWindow(t *testing.T) {
	s := newSide(t, 1, 3, 3)
	s.texts("a", "b", "c")
	s.tick("1:a/0")
	s.idle(2)
	s.tick("1:a/0")
	s.tick("")
	s.hear(0, 1, "", "")
	s.tick("2:b/0")
	s.idle(2)
	s.tick("2:b/0")
	s.hear(0, 2, "", "")
	s.tick("3:c/0")
	s.idle(2)
	s.tick("3:c/0")
	s.hear(0, 3, "", "")
	s.idle(5)
}

func TestP162ByTheirNumbers(t *testing.T) {
	s := newSide(t, 64, 3, 64)
	for i := range 64 {
		s.send(api.OK, numbered(64)[i])
		went := s.ticks()
		if !slices.IsSortedFunc(went, func(a, b api.Seg) int { return a.Seq - b.Seq }) {
			t.Errorf("%s", segsText(went))
		}
	}
	s.hear(0, 30, "", "")
	for range 4 {
		s.ticks()
	}
}

func TestP162AnOwedAnswer(t *testing.T) {
	s := newSide(t, 2, 3, 4)
	s.hear(1, 0, "x", "[x]")
	s.tick("0:/1")
	s.idle(2)
	s.hear(3, 0, "z", "") // early
	s.tick("0:/1")
	s.idle(1)
	s.hear(1, 0, "x", "") // came before
	s.tick("0:/1")
	s.idle(1)
	s.hear(4, 0, "far", "")
	s.tick("0:/1")
	s.idle(1)
	s.hear(3, 0, "z", "") // came early before
	s.tick("0:/1")
	s.idle(1)
	s.hear(math.MaxInt, 0, "far", "")
	s.tick("0:/1")
	s.idle(1)
	s.hear(2, 0, "y", "[y][z]")
	s.hear(2, 0, "y", "")
	s.tick("0:/3") // one for all of them
	s.idle(5)
}

func TestP162NoAnswerBesideABody(t *testing.T) {
	s := newSide(t, 2, 3, 4)
	s.texts("a", "b")
	s.hear(1, 0, "x", "[x]")
	s.tick("1:a/1 2:b/1")
	s.idle(2) // it owes none any more
	s.hear(2, 0, "y", "[y]")
	s.tick("1:a/2 2:b/2")
	s.hear(3, 0, "z", "[z]")
	s.tick("0:/3") // bodies wait, but none goes now
	s.idle(1)
	s.tick("1:a/3 2:b/3")
	s.hear(0, 2, "", "")
	s.idle(4)
}

func TestP162AnAckAloneIsOwedNothing(t *testing.T) {
	s := newSide(t, 2, 9, 4)
	s.hear(0, 0, "", "")
	s.idle(2)
	s.texts("a", "b")
	s.tick("1:a/0 2:b/0")
	s.hear(0, 1, "", "")
	s.idle(1)
	s.hear(0, 2, "", "")
	s.hear(0, 0, "", "")
	s.idle(9)
	// Nor is what is refused; but what is owed stays owed behind it.
	s.refuse(api.Seg{Seq: 1, Ack: 3, Body: []byte("x")}, api.ErrForm)
	s.refuse(api.Seg{Epoch: 1, Seq: 1, Body: []byte("x")}, api.ErrEpoch)
	s.idle(1)
	s.hear(1, 0, "x", "[x]")
	s.refuse(api.Seg{Seq: 1, Ack: 3}, api.ErrForm)
	s.refuse(api.Seg{Epoch: 1}, api.ErrEpoch)
	s.hear(0, 0, "", "")
	s.tick("0:/1")
	s.idle(1)
}

func TestP162AckIsGotAtThatTick(t *testing.T) {
	s := newSide(t, 3, 2, 4)
	s.texts("a", "b")
	s.tick("1:a/0 2:b/0")
	s.hear(1, 0, "x", "[x]")
	s.hear(3, 0, "z", "")
	s.tick("0:/1")
	s.tick("1:a/1 2:b/1")
	s.hear(2, 1, "y", "[y][z]")
	s.texts("c")
	s.tick("3:c/3")
	s.tick("2:b/3")
}

// set is a side of window 4 that was asked for seven bodies, and sent six, of which two are known to have come; that got two of the other side's, and has number 4 and 6 early; and that owes an answer.
func set(t testing.TB) *side {
	t.Helper()
	s := newSide(t, 4, 3, 5)
	s.texts("a", "b", "c", "d")
	s.tick("1:a/0 2:b/0 3:c/0 4:d/0")
	s.hear(1, 2, "u", "[u]")
	s.texts("e", "f")
	s.tick("5:e/1 6:f/1")
	s.texts("g")
	s.hear(2, 1, "v", "[v]")
	s.hear(4, 2, "x", "")
	s.hear(6, 0, "z", "")
	return s
}

// Each set of faults at once: the first one, in the promise's order, is told, and nothing changes.
func TestP163EachSetOfFaults(t *testing.T) {
	for faults := 1; faults < 1<<5; faults++ {
		has := func(i int) bool { return faults>>i&1 == 1 }
		if has(3) && has(4) {
			continue
		}
		// Without a fault it would be the body behind got, and acknowledge all.
		x, want := api.Seg{Seq: 3, Ack: 6, Body: []byte("w")}, api.ErrForm
		if has(0) {
			x.Epoch, want = 1, api.ErrEpoch
		}
		if has(1) {
			x.Ack = -1
		}
		if has(2) {
			x.Ack = 7 // it was asked for, but not sent
		}
		if has(3) {
			x.Seq = -3
		}
		if has(4) {
			x.Seq = 0
		}
		s := set(t)
		s.refuse(x, want)
		s.refuse(x, want)
		s.probe()
	}
	s := set(t)
	s.hear(3, 6, "w", "[w][x]")
	s.probe()
}

func TestP163OtherEpochs(t *testing.T) {
	for _, epoch := range []int{0, 1, 5, 1<<40 - 2, 1<<40 - 1} {
		s := newSide(t, 2, 1, 2)
		if epoch > 0 {
			s.reset(epoch, api.OK)
		}
		s.texts("a")
		s.tick("1:a/0")
		s.hear(2, 0, "y", "")
		others := append(append([]int{0, 1, 2, 4, 5, 6, epoch - 1, epoch + 1, epoch + 1<<32, epoch + 1<<40, epoch - 1<<40, -epoch, ^epoch, 1<<40 - 1}, wrongNumbers()...), greatNumbers()...)
		for _, other := range others {
			if other == epoch {
				continue
			}
			for _, x := range []api.Seg{{}, {Ack: 1}, {Seq: 1, Body: []byte("x")}, {Seq: 1, Ack: 1}, {Seq: 7}, {Seq: -1}, {Ack: -1}, {Ack: 2}, {Body: []byte("x")}} {
				x.Epoch = other
				s.refuse(x, api.ErrEpoch)
			}
		}
		s.hear(1, 1, "x", "[x][y]")
		s.probe()
	}
}

func TestP163Acks(t *testing.T) {
	// Six were sent, two of them are known to have come.
	for ack := range 7 {
		s := set(t)
		s.hear(0, ack, "", "")
		if want := 7 - max(ack, 2); s.l.Left() != want {
			t.Errorf("Ack %d: %d left, want %d", ack, s.l.Left(), want)
		}
		s.hear(0, ack, "", "")
		s.probe()
	}
	for _, ack := range slices.Concat([]int{7, 8, 9, 100, 1<<32 + 1, 1<<40 - 1}, wrongNumbers(), greatNumbers()) {
		s := set(t)
		s.refuse(api.Seg{Ack: ack}, api.ErrForm)
		s.refuse(api.Seg{Seq: 3, Ack: ack, Body: []byte("w")}, api.ErrForm)
		s.refuse(api.Seg{Seq: 1, Ack: ack, Body: []byte("u")}, api.ErrForm)
		s.probe()
	}
	s := newSide(t, 4, 9, 9)
	s.refuse(api.Seg{Ack: 1}, api.ErrForm)
	s.texts("a")
	s.refuse(api.Seg{Ack: 1}, api.ErrForm) // not sent yet
	s.tick("1:a/0")
	s.hear(0, 1, "", "")
	s.refuse(api.Seg{Ack: 2}, api.ErrForm)
	// An elder one takes nothing back.
	s.texts("b")
	s.hear(0, 0, "", "")
	s.tick("2:b/0")
	s.hear(0, 2, "", "")
	s.hear(0, 1, "", "")
	s.idle(9)
}

// What the window let go stays sent, whatever came behind it.
func TestP163AcksOfAFullWindow(t *testing.T) {
	for _, window := range []int{1, 2, 64} {
		s := newSide(t, window, 2, 200)
		s.send(api.OK, numbered(200)...)
		s.refuse(api.Seg{Ack: 1}, api.ErrForm)
		s.ticks()
		for sent := window; sent < 200; sent = min(sent+window, 200) {
			s.refuse(api.Seg{Ack: sent + 1}, api.ErrForm)
			s.hear(0, sent-1, "", "")
			s.hear(0, sent, "", "")
			s.refuse(api.Seg{Ack: sent + 1}, api.ErrForm)
			s.ticks()
		}
	}
}

func TestP163NumbersAroundTheWindow(t *testing.T) {
	for _, window := range []int{1, 2, 3, 63, 64} {
		for _, got := range []int{0, 1, 2, 64, 65, 200} {
			for _, d := range []int{-got, -got + 1, -1, 0, 1, 2, window - 1, window, window + 1, window + 2, window << 32, 1 << 62} {
				seq := got + d
				if seq < 1 {
					continue
				}
				s := newSide(t, window, 5, 5)
				for i, b := range numbered(got) {
					s.hear(i+1, 0, string(b), bodiesText([][]byte{b}))
				}
				s.ticks()
				want := ""
				if d == 1 {
					want = "[here]"
				}
				s.hear(seq, 0, "here", want)
				s.tick(fmt.Sprintf("0:/%d", s.l.Got()))
				s.idle(1)
				s.probe()
			}
		}
	}
}

func TestP163FarNumbers(t *testing.T) {
	for _, seq := range append([]int{1<<32 + 1, 1<<32 + 3, 1<<40 - 1}, greatNumbers()...) {
		s := set(t)
		s.hear(seq, 3, "far", "") // it acknowledges what it says, and is owed an answer
		if s.l.Left() != 4 || s.l.Got() != 2 {
			t.Errorf("Seq %d: Left %d, Got %d", seq, s.l.Left(), s.l.Got())
		}
		s.probe()
	}
	for _, seq := range wrongNumbers() {
		s := set(t)
		s.refuse(api.Seg{Seq: seq, Ack: 3, Body: []byte("w")}, api.ErrForm)
		s.refuse(api.Seg{Seq: seq, Ack: 3}, api.ErrForm)
		s.probe()
	}
}

func TestP163NoNumber(t *testing.T) {
	s := set(t)
	for _, b := range [][]byte{{0}, {1}, []byte("w"), make([]byte, 65536), make([]byte, 65537)} {
		s.refuse(api.Seg{Ack: 3, Body: b}, api.ErrForm)
	}
	for _, b := range [][]byte{nil, {}, make([]byte, 0, 9)} {
		if came, e := s.hears(api.Seg{Ack: 3, Body: b}); e != api.OK || len(came) != 0 {
			t.Errorf("Hear of no number and no body: %s, error %d", bodiesText(came), e)
		}
	}
	s.probe()
}

// The chapter names no length of a body that is heard.
func TestP163BodiesOfEachLength(t *testing.T) {
	s := newSide(t, 8, 1, 1)
	lengths := []int{0, 1, 65535, 65536, 65537, 200000, 0}
	for i, n := range lengths {
		if i > 0 {
			s.hears(api.Seg{Seq: i + 1, Body: someBytes(uint64(i), n)})
		}
	}
	came, _ := s.hears(api.Seg{Seq: 1})
	if len(came) != len(lengths) {
		t.Fatalf("%d bodies", len(came))
	}
	for i, n := range lengths {
		if len(came[i]) != n {
			t.Errorf("body %d: %d bytes, want %d", i+1, len(came[i]), n)
		}
	}
}

func TestP163TheFirstOneStays(t *testing.T) {
	s := newSide(t, 3, 1, 1)
	s.hear(2, 0, "y", "")
	s.hear(2, 0, "other", "")
	s.hear(3, 0, "", "")
	s.hear(3, 0, "another", "")
	s.hear(4, 0, "far", "")
	s.hear(1, 0, "x", "[x][y][]")
	s.hear(1, 0, "other", "")
	s.hear(3, 0, "other", "")
	s.hear(4, 0, "here", "[here]")
}

// shuffles answers each order of n things.
func shuffles(n int) [][]int {
	if n == 0 {
		return [][]int{nil}
	}
	var out [][]int
	for _, order := range shuffles(n - 1) {
		for at := range n {
			out = append(out, slices.Insert(slices.Clone(order), at, n))
		}
	}
	return out
}

func TestP163EachOrder(t *testing.T) {
	for _, order := range shuffles(6) {
		for _, window := range []int{1, 3, 5, 6} {
			s := newSide(t, window, 1, 1)
			var all [][]byte
			for range 6 { // what was too far comes again
				for _, seq := range order {
					came, _ := s.hears(api.Seg{Seq: seq, Body: numbered(6)[seq-1]})
					all = append(all, came...)
				}
			}
			if !sameBodies(all, numbered(6)) {
				t.Fatalf("%v: %s", order, bodiesText(all))
			}
		}
	}
}

func TestP163ManyAtOnce(t *testing.T) {
	s := newSide(t, 64, 1, 1)
	all := numbered(64)
	for i := 63; i > 0; i-- {
		s.hear(i+1, 0, string(all[i]), "")
	}
	if came, _ := s.hears(api.Seg{Seq: 1, Body: all[0]}); !sameBodies(came, all) || s.l.Got() != 64 {
		t.Errorf("%s, Got %d", bodiesText(came), s.l.Got())
	}
	s.hear(65, 0, "next", "[next]")
}

func TestP163BothAtOnce(t *testing.T) {
	s := newSide(t, 1, 9, 9)
	s.texts("a", "b", "c")
	s.tick("1:a/0")
	s.hear(1, 1, "x", "[x]")
	s.tick("2:b/1")
	s.hear(1, 2, "x", "") // what came before acknowledges, too
	s.tick("3:c/1")
	s.hear(3, 3, "far", "")
	s.tick("0:/1")
	s.idle(9)
}

func TestP164WrongEpochs(t *testing.T) {
	for _, epoch := range []int{0, 1, 2, 1 << 20, 1<<40 - 2, 1<<40 - 1} {
		s := newSide(t, 3, 2, 4)
		if epoch > 0 {
			s.reset(epoch, api.OK)
		}
		s.texts("a", "b", "c", "d")
		s.tick("1:a/0 2:b/0 3:c/0")
		s.hear(1, 2, "x", "[x]")
		s.hear(3, 0, "z", "")
		for _, to := range slices.Concat([]int{epoch, epoch - 1, epoch / 2, 0, epoch - 1<<32}, wrongNumbers(), greatNumbers()) {
			if to <= epoch || to >= 1<<40 {
				s.reset(to, api.ErrEpoch)
			}
		}
		s.tick("4:d/1")
		s.probe()
	}
}

func TestP164RightEpochs(t *testing.T) {
	for _, epoch := range []int{1, 2, 3, 255, 1<<32 - 1, 1 << 32, 1<<40 - 2, 1<<40 - 1} {
		s := set(t)
		s.reset(epoch, api.OK)
		if s.l.Epoch() != epoch || s.l.Left() != 0 || s.l.Got() != 0 {
			t.Errorf("epoch %d: Epoch %d, Left %d, Got %d", epoch, s.l.Epoch(), s.l.Left(), s.l.Got())
		}
		s.probe()
		s.reset(epoch, api.ErrEpoch)
	}
	s := newSide(t, 1, 1, 1)
	for epoch := range 20 {
		s.reset(3*epoch+1, api.OK)
		s.texts("a")
		s.tick("1:a/0")
		s.reset(3*epoch+1, api.ErrEpoch)
		s.reset(3*epoch, api.ErrEpoch)
	}
}

func TestP164NothingOfTheElderEpoch(t *testing.T) {
	s := set(t)
	s.reset(5, api.OK)
	s.idle(4) // nothing to send, nothing owed
	s.refuse(api.Seg{Epoch: 5, Ack: 1}, api.ErrForm)
	s.refuse(api.Seg{Epoch: 5, Ack: 6}, api.ErrForm)
	s.refuse(api.Seg{Ack: 2}, api.ErrEpoch)
	s.refuse(api.Seg{Seq: 3, Body: []byte("w")}, api.ErrEpoch)
	s.hear(2, 0, "new v", "")
	s.hear(3, 0, "new w", "")
	s.hear(1, 0, "new u", "[new u][new v][new w]") // the early ones are gone
	s.texts("1", "2", "3", "4", "5")
	s.send(api.ErrFull, nil)
	segs := s.ticks()
	if segsText(segs) != "1:1/3 2:2/3 3:3/3 4:4/3" || segs[0].Epoch != 5 || segs[3].Epoch != 5 {
		t.Errorf("%s, epochs %d and %d", segsText(segs), segs[0].Epoch, segs[3].Epoch)
	}
	s.idle(2)
	s.tick("1:1/3 2:2/3 3:3/3 4:4/3")
	s.hear(4, 0, "again", "[again]")
	if segs := s.ticks(); len(segs) != 1 || segs[0].Epoch != 5 || segs[0].Seq != 0 {
		t.Errorf("an owed answer: %s", segsText(segs))
	}
}

func TestP164LeftAndGot(t *testing.T) {
	s := newSide(t, 2, 1, 5)
	hold := func(left, got int) {
		t.Helper()
		if s.l.Left() != left || s.l.Got() != got {
			t.Errorf("Left %d, Got %d; want %d, %d", s.l.Left(), s.l.Got(), left, got)
		}
	}
	hold(0, 0)
	s.texts("a", "b", "c")
	hold(3, 0)
	s.ticks()
	hold(3, 0)
	s.hear(2, 1, "y", "")
	hold(2, 0)
	s.hear(1, 1, "x", "[x][y]")
	hold(2, 2)
	s.texts("d")
	hold(3, 2)
	s.ticks()
	s.hear(0, 3, "", "")
	hold(1, 2)
	s.ticks()
	s.hear(0, 4, "", "")
	hold(0, 2)
}

// Long runs of any calls, right ones and wrong ones.
func TestP163AnyCalls(t *testing.T) {
	for seed := range uint64(150) {
		next := steady(seed)
		upTo := func(n int) int { return int(next() >> 20 % uint64(n)) }
		s := newSide(t, 1+upTo(5), 1+upTo(5), 1+upTo(12))
		for range 300 {
			switch upTo(8) {
			case 0, 1:
				n := upTo(4)
				bodies := make([][]byte, n)
				for i := range bodies {
					bodies[i] = someBytes(next(), upTo(3))
				}
				s.send(s.p.clone().send(bodies...), bodies...)
			case 2, 3:
				s.ticks()
			case 4:
				if upTo(12) == 0 {
					to := s.p.epoch - 1 + upTo(4)
					s.reset(to, s.p.clone().reset(to))
				}
			default:
				x := api.Seg{Epoch: s.p.epoch, Seq: max(0, s.p.got-2+upTo(s.p.window+4)), Ack: max(0, s.p.greatest()-upTo(4))}
				if x.Seq > 0 {
					x.Body = someBytes(next(), upTo(3))
				}
				switch upTo(12) {
				case 0:
					x.Epoch += upTo(3) - 1
				case 1:
					x.Ack = s.p.greatest() + upTo(3)
				case 2:
					x.Seq = -upTo(3)
				case 3:
					x.Seq, x.Ack = upTo(3), -upTo(3)
				}
				s.hears(x)
			}
		}
		s.probe()
	}
}

// clone is one more plain link that is the same.
func (p *plain) clone() *plain {
	c := *p
	c.asked, c.went, c.came = slices.Clone(p.asked), maps.Clone(p.went), maps.Clone(p.came)
	return &c
}

// signed are bytes with their check sum behind them; made without the packages.
func signed(b []byte) []byte {
	return binary.BigEndian.AppendUint32(slices.Clone(b), crc32.ChecksumIEEE(b))
}

// unsigned are layer 14's frame without its sum, of any letters, version, kind and length.
func unsigned(letters string, version, kind byte, length uint32, body []byte) []byte {
	b := append([]byte(letters), version, kind)
	return append(binary.BigEndian.AppendUint32(b, length), body...)
}

// framed is layer 14's frame; made without the packages.
func framed(kind byte, body []byte) []byte {
	return signed(unsigned("PL", 1, kind, uint32(len(body)), body))
}

// plainBody is the body that the chapter tells of a segment's frame.
func plainBody(s api.Seg) []byte {
	var b []byte
	for _, n := range []int{s.Epoch, s.Seq, s.Ack} {
		b = append(b, binary.BigEndian.AppendUint64(nil, uint64(n))[3:]...)
	}
	return append(b, s.Body...)
}

// plainBytes are the frame that the chapter tells of a segment that has one.
func plainBytes(s api.Seg) []byte { return framed(32, plainBody(s)) }

// plainFault is what P16.5 says of Bytes' errors.
func plainFault(s api.Seg) api.Errno {
	for _, n := range []int{s.Epoch, s.Seq, s.Ack} {
		if n < 0 || n >= 1099511627776 {
			return api.ErrForm
		}
	}
	switch {
	case s.Seq == 0 && len(s.Body) > 0:
		return api.ErrForm
	case len(s.Body) > 65536:
		return api.ErrLong
	}
	return api.OK
}

// plainFrame is what layer 14 says of bytes: their error, or none.
func plainFrame(b []byte) api.Errno {
	switch {
	case len(b) < 12:
		return api.ErrShort
	case b[0] != 'P' || b[1] != 'L':
		return api.ErrMagic
	case b[2] != 1:
		return api.ErrKind
	}
	length := int(binary.BigEndian.Uint32(b[4:]))
	switch {
	case length > 1048576:
		return api.ErrLong
	case len(b) < 12+length:
		return api.ErrShort
	case len(b) > 12+length:
		return api.ErrExtra
	case crc32.ChecksumIEEE(b[:8+length]) != binary.BigEndian.Uint32(b[8+length:]):
		return api.ErrSum
	}
	return api.OK
}

// plainParse is what P16.5 says of Parse.
func plainParse(b []byte) (api.Seg, api.Errno) {
	if e := plainFrame(b); e != api.OK {
		return api.Seg{}, e
	}
	body := b[8 : len(b)-4]
	if b[3] != 32 || len(body) < 15 {
		return api.Seg{}, api.ErrForm
	}
	five := func(at int) int {
		return int(binary.BigEndian.Uint64(append([]byte{0, 0, 0}, body[at:at+5]...)))
	}
	s := api.Seg{Epoch: five(0), Seq: five(5), Ack: five(10), Body: body[15:]}
	if e := plainFault(s); e != api.OK {
		return api.Seg{}, e
	}
	return s, api.OK
}

// segFull tells a segment, its epoch, too.
func segFull(s api.Seg) string { return fmt.Sprintf("epoch %d, %s", s.Epoch, segText(s)) }

// holdBytes asks Bytes for what the chapter says of any segment; and of one that has a frame, that this says it.
func holdBytes(t *testing.T, s api.Seg) {
	t.Helper()
	want := plainFault(s)
	b, e := Bytes(s)
	if e != want || e != api.OK && len(b) != 0 {
		t.Errorf("Bytes(%s): %d bytes, error %d; want error %d", segFull(s), len(b), e, want)
	}
	if want != api.OK {
		return
	}
	if !bytes.Equal(b, plainBytes(s)) {
		t.Errorf("Bytes(%s): %s, want %s", segFull(s), short(b), short(plainBytes(s)))
	}
	holdParse(t, plainBytes(s), s)
}

// holdParse asks Parse for a segment.
func holdParse(t *testing.T, b []byte, want api.Seg) {
	t.Helper()
	s, e := Parse(b)
	if e != api.OK || !sameSeg(s, want) {
		t.Errorf("Parse of %s: %s, error %d", segFull(want), segFull(s), e)
	}
	if again, e := Bytes(s); e != api.OK || !bytes.Equal(again, b) {
		t.Errorf("Bytes of Parse of %s: %s, error %d", segFull(want), short(again), e)
	}
}

// refuseParse asks Parse for an error, and for nothing else beside it.
func refuseParse(t *testing.T, what string, b []byte, want api.Errno) {
	t.Helper()
	if s, e := Parse(b); e != want || !sameSeg(s, api.Seg{}) || len(s.Body) != 0 {
		t.Errorf("%s: Parse: %s, error %d; want error %d", what, segFull(s), e, want)
	}
}

// holdAsPlain asks Parse for what the chapter says of any bytes.
func holdAsPlain(t *testing.T, b []byte) {
	t.Helper()
	want, wantE := plainParse(b)
	if s, e := Parse(b); e != wantE || !sameSeg(s, want) {
		t.Errorf("Parse(%x): %s, error %d; want %s, error %d", b[:min(len(b), 60)], segFull(s), e, segFull(want), wantE)
	}
}

func TestP165BytesWrittenOut(t *testing.T) {
	for _, c := range []struct {
		s    api.Seg
		want string
	}{
		{api.Seg{Epoch: 1, Seq: 2, Ack: 3, Body: []byte("hi")}, "PL\x01\x20\x00\x00\x00\x11\x00\x00\x00\x00\x01\x00\x00\x00\x00\x02\x00\x00\x00\x00\x03hi"},
		{api.Seg{}, "PL\x01\x20\x00\x00\x00\x0f\x00\x00\x00\x00\x00\x00\x00\x00\x00\x00\x00\x00\x00\x00\x00"},
		{api.Seg{Epoch: 0x0102030405, Seq: 0xFFFFFFFFFF, Ack: 0x80000000FE}, "PL\x01\x20\x00\x00\x00\x0f\x01\x02\x03\x04\x05\xff\xff\xff\xff\xff\x80\x00\x00\x00\xfe"},
		{api.Seg{Seq: 1, Body: []byte{0}}, "PL\x01\x20\x00\x00\x00\x10\x00\x00\x00\x00\x00\x00\x00\x00\x00\x01\x00\x00\x00\x00\x00\x00"},
	} {
		b, e := Bytes(c.s)
		if e != api.OK || !bytes.Equal(b, signed([]byte(c.want))) {
			t.Errorf("Bytes(%s): %x, error %d", segFull(c.s), b, e)
		}
		holdParse(t, signed([]byte(c.want)), c.s)
	}
}

// numbersToTry are right ones and wrong ones.
func numbersToTry() []int {
	right := []int{0, 1, 2, 127, 128, 255, 256, 257, 65535, 65536, 1<<24 - 1, 1 << 24, 1<<31 - 1, 1 << 31, 1<<32 - 1, 1 << 32, 0x0102030405, 1 << 39, 1<<40 - 2, 1<<40 - 1}
	return slices.Concat(right, wrongNumbers(), greatNumbers())
}

func TestP165EachNumber(t *testing.T) {
	for _, b := range [][]byte{nil, {}, {0}, []byte("body"), someBytes(1, 300)} {
		for _, n := range numbersToTry() {
			for _, other := range []int{0, 1, 77, 1<<40 - 1} {
				holdBytes(t, api.Seg{Epoch: n, Seq: other, Ack: other, Body: b})
				holdBytes(t, api.Seg{Epoch: other, Seq: n, Ack: other, Body: b})
				holdBytes(t, api.Seg{Epoch: other, Seq: other, Ack: n, Body: b})
			}
			for _, m := range numbersToTry() {
				holdBytes(t, api.Seg{Epoch: n, Seq: m, Ack: 5, Body: b})
				holdBytes(t, api.Seg{Epoch: 5, Seq: n, Ack: m, Body: b})
				holdBytes(t, api.Seg{Epoch: m, Seq: 5, Ack: n, Body: b})
			}
		}
	}
}

func TestP165WrongNumbersWithoutAFrame(t *testing.T) {
	for _, n := range slices.Concat(wrongNumbers(), greatNumbers()) {
		for _, s := range []api.Seg{{Epoch: n, Seq: 1, Ack: 1}, {Epoch: 1, Seq: n, Ack: 1}, {Epoch: 1, Seq: 1, Ack: n}, {Epoch: n, Seq: n, Ack: n}} {
			for _, b := range [][]byte{nil, []byte("x"), make([]byte, 65537)} {
				s.Body = b
				if b, e := Bytes(s); e != api.ErrForm || len(b) != 0 {
					t.Errorf("Bytes(%s): %d bytes, error %d", segFull(s), len(b), e)
				}
			}
		}
	}
}

func TestP165BodiesOfEachLength(t *testing.T) {
	for n := range 400 {
		holdBytes(t, api.Seg{Epoch: 1, Seq: 1, Ack: 2, Body: someBytes(uint64(n), n)})
	}
	long := someBytes(5, api.MaxBody)
	for _, n := range []int{65534, 65535, 65536} {
		holdBytes(t, api.Seg{Epoch: 3, Seq: 9, Ack: 1, Body: long[:n]})
		if b, e := Bytes(api.Seg{Seq: 1, Body: long[:n]}); e != api.OK || len(b) != n+27 {
			t.Errorf("a body of %d bytes: %d, error %d", n, len(b), e)
		}
	}
	for _, n := range []int{65537, 65538, 100000, api.MaxBody - 15, api.MaxBody - 14, api.MaxBody} {
		s := api.Seg{Epoch: 3, Seq: 9, Ack: 1, Body: long[:n]}
		if b, e := Bytes(s); e != api.ErrLong || len(b) != 0 {
			t.Errorf("a body of %d bytes: %d, error %d", n, len(b), e)
		}
		if n+15 <= api.MaxBody {
			refuseParse(t, "a body that is too long", plainBytes(s), api.ErrLong)
		}
		// Of no number it is of a wrong form first.
		s.Seq = 0
		if b, e := Bytes(s); e != api.ErrForm || len(b) != 0 {
			t.Errorf("a body of %d bytes, and no number: %d, error %d", n, len(b), e)
		}
		if n+15 <= api.MaxBody {
			refuseParse(t, "a body that is too long, and no number", plainBytes(s), api.ErrForm)
		}
	}
}

// rights are some segments that have frames.
func rights() []api.Seg {
	return []api.Seg{
		{}, {Seq: 1}, {Epoch: 7, Ack: 4}, {Epoch: 1, Seq: 2, Ack: 3, Body: []byte("hi")}, {Epoch: 1<<40 - 1, Seq: 1<<40 - 1, Ack: 1<<40 - 1, Body: []byte{255}},
		{Seq: 256, Body: plainBytes(api.Seg{Seq: 1, Body: []byte("within")})}, {Epoch: 0x0102030405, Seq: 0x060708090A, Ack: 0x0B0C0D0E0F, Body: someBytes(3, 40)},
	}
}

func TestP165ParseOfLayer14sErrors(t *testing.T) {
	refuseParse(t, "nil", nil, api.ErrShort)
	refuseParse(t, "empty", []byte{}, api.ErrShort)
	for _, s := range rights() {
		b, body := plainBytes(s), plainBody(s)
		length := uint32(len(body))
		for n := range b {
			refuseParse(t, "the beginning", b[:n], api.ErrShort)
		}
		refuseParse(t, "another letter", signed(unsigned("PM", 1, 32, length, body)), api.ErrMagic)
		refuseParse(t, "another letter", signed(unsigned("QL", 1, 32, length, body)), api.ErrMagic)
		refuseParse(t, "another version", signed(unsigned("PL", 2, 32, length, body)), api.ErrKind)
		refuseParse(t, "a length above all", signed(unsigned("PL", 1, 32, api.MaxBody+1, body)), api.ErrLong)
		refuseParse(t, "a length that is too great", signed(unsigned("PL", 1, 32, length+1, body)), api.ErrShort)
		refuseParse(t, "a length that is too small", signed(unsigned("PL", 1, 32, length-1, body)), api.ErrExtra)
		refuseParse(t, "a byte more", append(slices.Clone(b), 0), api.ErrExtra)
		refuseParse(t, "twice", append(slices.Clone(b), b...), api.ErrExtra)
		for i := 8; i < len(b); i++ {
			c := slices.Clone(b)
			c[i] ^= 1
			refuseParse(t, "another byte", c, api.ErrSum)
		}
	}
}

// Each set of faults at once: the first one, in the promise's order, is told.
func TestP165ParseOfSeveralFaults(t *testing.T) {
	for faults := range 1 << 7 {
		has := func(i int) bool { return faults>>i&1 == 1 }
		s, want := api.Seg{Epoch: 1, Seq: 2, Ack: 3, Body: []byte("hi")}, api.OK
		letters, version, kind := "PL", byte(1), byte(32)
		if has(6) {
			s.Body, want = make([]byte, 65537), api.ErrLong
		}
		if has(5) {
			s.Seq, want = 0, api.ErrForm
		}
		if has(4) {
			kind, want = 33, api.ErrForm
		}
		body := plainBody(s)
		length := uint32(len(body))
		if has(3) {
			want = api.ErrSum
		}
		if has(2) {
			length, want = length+1, api.ErrShort
		}
		if has(1) {
			version, want = 9, api.ErrKind
		}
		if has(0) {
			letters, want = "LP", api.ErrMagic
		}
		b := signed(unsigned(letters, version, kind, length, body))
		if has(3) {
			b[len(b)-1] ^= 1
		}
		if want == api.OK {
			holdParse(t, b, s)
		} else {
			refuseParse(t, fmt.Sprintf("faults %07b", faults), b, want)
		}
	}
}

func TestP165ParseOfOtherKinds(t *testing.T) {
	for _, s := range rights() {
		for kind := range 256 {
			b := framed(byte(kind), plainBody(s))
			if kind == 32 {
				holdParse(t, b, s)
			} else {
				refuseParse(t, "another kind", b, api.ErrForm)
			}
		}
	}
	refuseParse(t, "the longest body of another kind", framed(31, make([]byte, api.MaxBody)), api.ErrForm)
}

func TestP165ParseOfShortBodies(t *testing.T) {
	for n := range 15 {
		for _, body := range [][]byte{make([]byte, n), someBytes(2, n), bytes.Repeat([]byte{255}, n), plainBody(rights()[3])[:n]} {
			refuseParse(t, "shorter than the numbers", framed(32, body), api.ErrForm)
		}
	}
	holdParse(t, framed(32, make([]byte, 15)), api.Seg{})
	holdParse(t, framed(32, bytes.Repeat([]byte{255}, 15)), api.Seg{Epoch: 1<<40 - 1, Seq: 1<<40 - 1, Ack: 1<<40 - 1})
	refuseParse(t, "no number and a byte", framed(32, make([]byte, 16)), api.ErrForm)
	refuseParse(t, "no number and a byte", framed(32, append(plainBody(api.Seg{Epoch: 5, Ack: 6}), 'x')), api.ErrForm)
	holdParse(t, framed(32, bytes.Repeat([]byte{255}, 16)), api.Seg{Epoch: 1<<40 - 1, Seq: 1<<40 - 1, Ack: 1<<40 - 1, Body: []byte{255}})
}

func TestP165ParseOfTheLongestBodies(t *testing.T) {
	for _, n := range []int{65536, 65537, 65551, 65552, 70000, api.MaxBody} {
		for _, first := range []byte{0, 255} {
			holdAsPlain(t, framed(32, bytes.Repeat([]byte{first}, n)))
		}
	}
}

func TestP165ParseOfAnyBytes(t *testing.T) {
	next := steady(4)
	for n := range 3000 {
		holdAsPlain(t, someBytes(uint64(n), n%100))
		holdAsPlain(t, framed(byte(30+next()>>20%4), someBytes(uint64(n), int(next()>>20%40))))
		holdAsPlain(t, framed(32, make([]byte, n%40)))
	}
	for _, s := range rights() {
		b := plainBytes(s)
		for i := range b {
			for _, x := range []byte{1, 2, 4, 128, 255} {
				c := slices.Clone(b)
				c[i] ^= x
				holdAsPlain(t, c)
				holdAsPlain(t, signed(c[:len(c)-4]))
			}
		}
	}
}

func TestP165NothingIsKept(t *testing.T) {
	for range 3 {
		for _, s := range rights() {
			holdBytes(t, s)
		}
		refuseParse(t, "short", []byte("PL"), api.ErrShort)
		if _, e := Bytes(api.Seg{Seq: -1}); e != api.ErrForm {
			t.Errorf("error %d", e)
		}
	}
}

// world is two sides, and the segments that are under way to each.
type world struct {
	t     testing.TB
	sides [2]*side
	way   [2][]api.Seg
	// By epoch: what each was asked to send, and what each answered.
	asked, said [2]map[int][][]byte
	count       int
}

// newWorld is one of two sides alike.
func newWorld(t testing.TB, window, span, room int) *world {
	t.Helper()
	w := &world{t: t}
	for i := range 2 {
		w.sides[i] = newSide(t, window, span, room)
		w.asked[i], w.said[i] = map[int][][]byte{}, map[int][][]byte{}
	}
	return w
}

// send asks a side for n more bodies, or for as many as it has room for.
func (w *world) send(i, n int) {
	w.t.Helper()
	s := w.sides[i]
	for range min(n, s.p.room-s.p.left()) {
		w.count++
		b := fmt.Appendf(nil, "%d of side %d", w.count, i)
		if w.count%11 == 0 {
			b = nil
		}
		s.send(api.OK, b)
		w.asked[i][s.p.epoch] = append(w.asked[i][s.p.epoch], b)
	}
}

// tick lets a side tick.
func (w *world) tick(i int) {
	w.t.Helper()
	w.way[1-i] = append(w.way[1-i], w.sides[i].ticks()...)
}

// reset begins an epoch at a side.
func (w *world) reset(i, epoch int) {
	w.t.Helper()
	if epoch > w.sides[i].p.epoch {
		w.sides[i].reset(epoch, api.OK)
	}
}

// take is a segment that is under way no more.
func (w *world) take(i, at int) api.Seg {
	s := w.way[i][at]
	w.way[i] = slices.Delete(w.way[i], at, at+1)
	return s
}

// arrive lets a segment come to a side.
func (w *world) arrive(i int, s api.Seg) {
	w.t.Helper()
	came, e := w.sides[i].hears(s)
	epoch := w.sides[i].p.epoch
	if same := s.Epoch == epoch; (e == api.OK) != same || e != api.OK && e != api.ErrEpoch {
		w.t.Fatalf("Hear(%s) in epoch %d: error %d", segFull(s), epoch, e)
	}
	w.said[i][epoch] = append(w.said[i][epoch], came...)
	said, asked := w.said[i][epoch], w.asked[1-i][epoch]
	if len(said) > len(asked) || !sameBodies(said, asked[:len(said)]) {
		w.t.Fatalf("side %d, epoch %d: what it answered isn't how what the other was asked begins: %s", i, epoch, bodiesText(said))
	}
}

// wild lets any things happen: bodies are asked for, ticks come, segments arrive in any order, are lost and doubled.
func (w *world) wild(steps int, next func() uint64) {
	w.t.Helper()
	upTo := func(n int) int { return int(next() >> 20 % uint64(n)) }
	for range steps {
		i := upTo(2)
		switch n := len(w.way[i]); upTo(7) {
		case 0:
			w.send(i, upTo(5))
		case 1, 2:
			w.tick(i)
		case 3, 4:
			if n > 0 {
				w.arrive(i, w.take(i, upTo(n)))
			}
		case 5:
			if n > 0 {
				w.take(i, upTo(n))
			}
		case 6:
			if n > 0 {
				w.way[i] = append(w.way[i], w.way[i][upTo(n)])
			}
		}
	}
}

// done: did all come, and do both know it?
func (w *world) done() bool {
	for i := range 2 {
		epoch := w.sides[i].p.epoch
		if w.sides[i].l.Left() != 0 || len(w.said[1-i][epoch]) != len(w.asked[i][epoch]) {
			return false
		}
	}
	return true
}

// orders are those in which what was sent at one tick may arrive.
var orders = []func(segs []api.Seg){
	func([]api.Seg) {},
	func(segs []api.Seg) { slices.Reverse(segs) },
	func(segs []api.Seg) {
		next := steady(uint64(len(segs)))
		for i := range segs {
			j := i + int(next()>>20%uint64(len(segs)-i))
			segs[i], segs[j] = segs[j], segs[i]
		}
	},
}

// calm lets both tick, turn by turn, what is sent arriving at once, until all came; within the bound that P16.6 tells. What was under way arrives in between, if late is true, else it is lost.
func (w *world) calm(first int, late bool, order func([]api.Seg)) {
	w.t.Helper()
	n := max(w.sides[0].l.Left(), w.sides[1].l.Left())
	p := w.sides[0].p
	bound := (n/p.window + 2) * (2*p.span + 4)
	old := w.way
	w.way = [2][]api.Seg{}
	ticks := 0
	for i := first; !w.done(); i = 1 - i {
		if ticks++; ticks > bound {
			w.t.Fatalf("window %d, span %d, %d left: not all came within %d ticks", p.window, p.span, n, bound)
		}
		w.tick(i)
		order(w.way[1-i])
		for _, s := range w.way[1-i] {
			w.arrive(1-i, s)
		}
		w.way[1-i] = nil
		if late && len(old[i]) > 0 {
			w.arrive(i, old[i][0])
			old[i] = old[i][1:]
		}
	}
	w.quiet()
}

// quiet asks that, where all came, and both know it, no more than one owed answer goes from each.
func (w *world) quiet() {
	w.t.Helper()
	for i := range 2 {
		if segs := w.sides[i].ticks(); len(segs) > 1 || len(segs) == 1 && segs[0].Seq != 0 {
			w.t.Fatalf("all came, and these go: %s", segsText(segs))
		}
		w.sides[i].idle(2)
	}
}

func TestP166LostDoubledLate(t *testing.T) {
	for seed := range uint64(200) {
		next := steady(seed)
		upTo := func(n int) int { return int(next() >> 20 % uint64(n)) }
		w := newWorld(t, 1+upTo(6), 1+upTo(6), 1+upTo(40))
		for range 3 {
			w.wild(150, next)
			w.calm(upTo(2), upTo(2) == 0, orders[upTo(len(orders))])
		}
	}
}

func TestP166OfEachWindowAndSpan(t *testing.T) {
	for _, window := range []int{1, 2, 63, 64} {
		for _, span := range []int{1, 2, 30} {
			next := steady(uint64(window + span))
			w := newWorld(t, window, span, 500)
			for i := range 2 {
				w.wild(100, next)
				w.send(i, 300)
				w.wild(100, next)
				w.calm(i, i == 0, orders[(window+span)%len(orders)])
			}
		}
	}
	w := newWorld(t, 64, 1000, 4096)
	w.send(0, 4096)
	w.tick(0)
	w.calm(1, false, orders[0])
}

// Links that aren't alike keep the order, too.
func TestP166UnlikeLinks(t *testing.T) {
	for seed := range uint64(60) {
		next := steady(seed)
		w := newWorld(t, 1+int(seed%5), 1+int(seed%3), 20)
		w.sides[1] = newSide(t, 6-int(seed%5), 4-int(seed%3), 9)
		w.wild(600, next)
	}
}

// Just as many bodies as windows hold, one fewer, one more; all lost at first, or all answers lost.
func TestP166TheBound(t *testing.T) {
	for _, window := range []int{1, 2, 3, 8} {
		for _, span := range []int{1, 2, 3, 20} {
			for _, n := range []int{0, 1, window - 1, window, window + 1, 2*window - 1, 2 * window, 2*window + 1, 5 * window} {
				for lost := range 4 {
					for first := range 2 {
						for _, back := range []int{0, 1, n} {
							w := newWorld(t, window, span, 50)
							w.send(0, n)
							w.send(1, back)
							w.fail(lost)
							w.calm(first, lost%2 == 0, orders[(n+lost)%len(orders)])
						}
					}
				}
			}
		}
	}
}

// fail lets both tick once or twice, and what they send be lost: all, or the answers alone.
func (w *world) fail(lost int) {
	w.t.Helper()
	for range lost {
		w.tick(0)
		if lost > 1 {
			for len(w.way[1]) > 0 {
				w.arrive(1, w.take(1, len(w.way[1])-1))
			}
		}
		w.tick(1)
		w.way = [2][]api.Seg{}
	}
}

// bare is two links without what is plain beside them; quick enough for each of many runs.
type bare struct {
	links [2]*Link
	way   [2][]api.Seg
	said  [2]int
	wrong bool
}

// arrive lets the segment come to a side that was the first under way to it.
func (b *bare) arrive(i int) {
	s := b.way[i][0]
	b.way[i] = b.way[i][1:]
	came, e := b.links[i].Hear(s)
	b.wrong = b.wrong || e != api.OK
	for _, body := range came {
		b.said[i]++
		b.wrong = b.wrong || len(body) != 1 || int(body[0]) != b.said[i]
	}
}

// tick lets a side tick.
func (b *bare) tick(i int) { b.way[1-i] = append(b.way[1-i], b.links[i].Tick()...) }

// step is one of ten things that may happen, five at each side; nothing, where one of these asks for a segment and none is under way.
func (b *bare) step(what int) {
	i := what % 2
	if what/2 == 0 {
		b.tick(i)
		return
	}
	if len(b.way[i]) == 0 {
		return
	}
	first := b.way[i][0]
	switch what / 2 {
	case 1:
		b.arrive(i)
	case 2: // it is lost
		b.way[i] = b.way[i][1:]
	case 3: // it goes behind the others
		b.way[i] = append(b.way[i][1:len(b.way[i]):len(b.way[i])], first)
	case 4: // it arrives, and is still under way, behind the others
		b.arrive(i)
		b.way[i] = append(b.way[i][:len(b.way[i]):len(b.way[i])], first)
	}
}

// ticksTillDone lets calm ticks come till all did; at most so many.
func (b *bare) ticksTillDone(n, most int) int {
	b.way = [2][]api.Seg{}
	for ticks := range most + 1 {
		if b.links[0].Left() == 0 && b.links[1].Left() == 0 && b.said == [2]int{n, n} {
			return ticks
		}
		i := ticks % 2
		b.tick(i)
		for len(b.way[1-i]) > 0 {
			b.arrive(1 - i)
		}
	}
	return most + 1
}

// Each run of so many things, from the first tick on.
func TestP166EachShortRun(t *testing.T) {
	const n, long, things = 3, 5, 10
	for _, c := range [][2]int{{1, 1}, {1, 2}, {2, 1}, {2, 3}} {
		window, span := c[0], c[1]
		for run := range int(math.Pow(things, long)) {
			var b bare
			for i := range 2 {
				b.links[i], _ = New(window, span, n)
				b.links[i].Send([]byte{1}, []byte{2}, []byte{3})
			}
			b.tick(run % 2)
			for left, k := run, 0; k < long; left, k = left/things, k+1 {
				b.step(left % things)
			}
			most := (max(b.links[0].Left(), b.links[1].Left())/window + 2) * (2*span + 4)
			if ticks := b.ticksTillDone(n, most); ticks > most || b.wrong {
				t.Fatalf("window %d, span %d, run %d: %d ticks, %d and %d were answered, wrong: %v", window, span, run, ticks, b.said[0], b.said[1], b.wrong)
			}
		}
	}
}

// Epochs begin now at one side, now at the other; what is of another one is refused, and later calm brings all of the last one.
func TestP166Epochs(t *testing.T) {
	for seed := range uint64(120) {
		next := steady(seed)
		upTo := func(n int) int { return int(next() >> 20 % uint64(n)) }
		w := newWorld(t, 1+upTo(4), 1+upTo(4), 1+upTo(20))
		for range 8 {
			w.wild(50, next)
			w.reset(upTo(2), w.sides[0].p.epoch+upTo(3))
		}
		last := max(w.sides[0].p.epoch, w.sides[1].p.epoch) + 1
		for i := range 2 {
			w.wild(50, next)
			w.reset(i, last)
		}
		w.wild(100, next)
		w.calm(upTo(2), true, orders[upTo(len(orders))])
	}
}

// The same, as bytes.
func TestP166AsBytes(t *testing.T) {
	for seed := range uint64(20) {
		w := newWorld(t, 3, 2, 20)
		next := steady(seed)
		for range 60 {
			w.wild(5, next)
			for i := range 2 {
				for k, s := range w.way[i] {
					b, e := Bytes(s)
					back, f := Parse(b)
					if e != api.OK || f != api.OK || !sameSeg(s, back) {
						t.Fatalf("%s: errors %d and %d, %s", segFull(s), e, f, segFull(back))
					}
					w.way[i][k] = back
				}
			}
		}
		w.calm(0, true, orders[0])
	}
}

// roomy is a body with spare room, in which bytes stand.
func roomy(text string) []byte { return append([]byte(text), "spare"...)[:len(text)] }

func TestP166WhatIsHandedInStays(t *testing.T) {
	keep := func(what string, b []byte, call func()) {
		t.Helper()
		was := slices.Clone(b[:cap(b)])
		call()
		if !bytes.Equal(b[:cap(b)], was) {
			t.Errorf("%s changed what was handed in", what)
		}
	}
	s := newSide(t, 3, 1, 3)
	sent, came, early := roomy("sent"), roomy("came"), roomy("early")
	keep("Send", sent, func() { s.send(api.OK, sent, sent) })
	keep("Tick", sent, func() { s.ticks() })
	keep("Hear", early, func() { s.hears(api.Seg{Seq: 2, Body: early}) })
	keep("Hear", came, func() { s.hears(api.Seg{Seq: 1, Ack: 1, Body: came}) })
	keep("Hear", came, func() { s.refuse(api.Seg{Body: came}, api.ErrForm) })
	keep("Bytes", sent, func() { Bytes(api.Seg{Seq: 1, Body: sent}) })
	keep("Bytes", sent, func() { Bytes(api.Seg{Body: sent}) })
	b := append(plainBytes(rights()[3]), "spare"...)
	keep("Parse", b[:len(b)-5], func() { Parse(b[:len(b)-5]) })
	keep("Parse", b, func() { Parse(b) })
	list := [][]byte{[]byte("a"), nil, []byte("b")}[:1]
	s.hear(0, 2, "", "")
	s.send(api.OK, list...)
	if string(list[0]) != "a" || string(list[:3][2]) != "b" {
		t.Error("Send changed the list that was handed in")
	}
}

func TestP166WhatIsHandedInIsntKept(t *testing.T) {
	s := newSide(t, 4, 1, 4)
	sent := [][]byte{roomy("a"), roomy("b"), roomy("c")}
	s.send(api.OK, sent...)
	spoil(sent...)
	sent[1] = []byte("other")
	s.tick("1:a/0 2:b/0 3:c/0")
	first, early := roomy("x"), roomy("y")
	s.hears(api.Seg{Seq: 2, Body: early})
	spoil(early)
	came, _ := s.hears(api.Seg{Seq: 1, Body: first})
	spoil(first)
	if bodiesText(came) != "[x][y]" {
		t.Errorf("%s", bodiesText(came))
	}
	parsed := plainBytes(rights()[3])
	seg, _ := Parse(parsed)
	spoil(parsed)
	if !sameSeg(seg, rights()[3]) {
		t.Errorf("a segment shares the bytes that it was parsed from: %s", segFull(seg))
	}
	body := roomy("body")
	b, _ := Bytes(api.Seg{Seq: 1, Body: body})
	spoil(body)
	if !bytes.Equal(b, plainBytes(api.Seg{Seq: 1, Body: []byte("body")})) {
		t.Errorf("bytes share the segment's body: %x", b)
	}
}

func TestP166AnswersAreNewMemory(t *testing.T) {
	s := newSide(t, 4, 1, 4)
	s.texts("a", "b", "c")
	one := s.ticks()
	two := s.ticks()
	for i := range one {
		spoil(one[i].Body)
		one[i] = api.Seg{Epoch: 9, Seq: 9}
	}
	if segsText(two) != "1:a/0 2:b/0 3:c/0" {
		t.Errorf("one tick's segments share another one's: %s", segsText(two))
	}
	spoil(two[0].Body)
	if segsText(two[1:]) != "2:b/0 3:c/0" {
		t.Errorf("bodies of one tick share memory: %s", segsText(two))
	}
	s.tick("1:a/0 2:b/0 3:c/0")

	early := roomy("y")
	s.hears(api.Seg{Seq: 2, Body: early})
	s.hear(3, 0, "z", "")
	came, _ := s.hears(api.Seg{Seq: 1, Body: []byte("x")})
	for i := range came {
		rest := slices.Clone(came[i+1:])
		spoil(came[i])
		came[i] = nil
		if i == 0 && bodiesText(rest) != "[y][z]" {
			t.Errorf("bodies of one answer share memory: %s", bodiesText(rest))
		}
	}
	if string(early) != "y" {
		t.Error("an answer shares what was handed in")
	}
	s.hear(4, 0, "next", "[next]")
	s.probe()
}

func TestP166BytesAreNewMemory(t *testing.T) {
	for _, s := range rights() {
		one, _ := Bytes(s)
		two, _ := Bytes(s)
		spoil(one)
		if !bytes.Equal(two, plainBytes(s)) {
			t.Errorf("Bytes(%s) twice: the two share memory", segFull(s))
		}
		b := plainBytes(s)
		x, _ := Parse(b)
		y, _ := Parse(b)
		spoil(x.Body)
		if !sameSeg(y, s) || !bytes.Equal(b, plainBytes(s)) {
			t.Errorf("Parse of %s: what it answers is shared", segFull(s))
		}
	}
}

// What one link does hangs on its own calls alone.
func TestP166TheSameEachTime(t *testing.T) {
	run := func() string {
		next := steady(12)
		w := newWorld(t, 3, 2, 30)
		w.wild(500, next)
		out := ""
		for i := range 2 {
			out += segsText(w.way[i]) + bodiesText(w.said[i][0]) + "\n"
		}
		return out
	}
	first := run()
	for range 5 {
		if run() != first {
			t.Fatal("the same calls are answered otherwise")
		}
	}
}
