package frame

import (
	"bytes"
	"encoding/binary"
	"fmt"
	"hash/crc32"
	"math"
	"slices"
	"testing"

	"peloton/api"
)

// steady answers numbers by a fixed rule, so that a test is the same each time.
func steady(seed uint64) func() uint64 {
	return func() uint64 {
		seed = seed*6364136223846793005 + 1442695040888963407
		return seed ^ seed>>29
	}
}

// someBytes are n bytes that hang on a seed.
func someBytes(seed uint64, n int) []byte {
	next := steady(seed)
	b := make([]byte, n)
	for i := range b {
		b[i] = byte(next() >> 16)
	}
	return b
}

// signed are bytes with their check sum behind them; made without the package.
func signed(b []byte) []byte {
	return binary.BigEndian.AppendUint32(slices.Clone(b), crc32.ChecksumIEEE(b))
}

// unsigned are the chapter's frame without its sum, of any letters, version, kind and length.
func unsigned(letters string, version, kind byte, length uint32, body []byte) []byte {
	b := append([]byte(letters), version, kind)
	return append(binary.BigEndian.AppendUint32(b, length), body...)
}

// framed is the chapter's frame; made without the package.
func framed(kind byte, body []byte) []byte {
	return signed(unsigned("PL", 1, kind, uint32(len(body)), body))
}

// plainParse is what P14.1 says of Parse.
func plainParse(b []byte) (byte, []byte, api.Errno) {
	switch {
	case len(b) < 12:
		return 0, nil, api.ErrShort
	case b[0] != 'P' || b[1] != 'L':
		return 0, nil, api.ErrMagic
	case b[2] != 1:
		return 0, nil, api.ErrKind
	}
	length := int(binary.BigEndian.Uint32(b[4:]))
	switch {
	case length > 1048576:
		return 0, nil, api.ErrLong
	case len(b) < 12+length:
		return 0, nil, api.ErrShort
	case len(b) > 12+length:
		return 0, nil, api.ErrExtra
	case crc32.ChecksumIEEE(b[:8+length]) != binary.BigEndian.Uint32(b[8+length:]):
		return 0, nil, api.ErrSum
	}
	return b[3], b[8 : 8+length], api.OK
}

// plainSplit is what P14.2 says of Split; what it answers is b's own memory.
func plainSplit(b []byte) ([][]byte, []byte) {
	var frames [][]byte
	for len(b) >= 8 {
		n := 12 + int(binary.BigEndian.Uint32(b[4:]))
		if n > len(b) {
			break
		}
		if _, _, e := plainParse(b[:n]); e != api.OK {
			break
		}
		frames, b = append(frames, b[:n]), b[n:]
	}
	return frames, b
}

// packed is Pack's frame, where it has one.
func packed(t *testing.T, kind byte, body []byte) []byte {
	t.Helper()
	b, e := Pack(kind, body)
	if e != api.OK {
		t.Fatalf("Pack(%d, %d bytes): error %d", kind, len(body), e)
	}
	return b
}

// short is what a failed test tells of bytes.
func short(b []byte) string { return fmt.Sprintf("%d bytes, %x", len(b), b[:min(len(b), 40)]) }

// holdPack asks for a frame, and that it says kind and body.
func holdPack(t *testing.T, kind byte, body []byte) {
	t.Helper()
	b := packed(t, kind, body)
	if !bytes.Equal(b, framed(kind, body)) {
		t.Errorf("Pack(%d, %s): %s, want %s", kind, short(body), short(b), short(framed(kind, body)))
	}
	holdParse(t, b, kind, body)
}

// refusePack asks for no frame.
func refusePack(t *testing.T, kind byte, body []byte) {
	t.Helper()
	if b, e := Pack(kind, body); e != api.ErrLong || len(b) != 0 {
		t.Errorf("Pack(%d, %d bytes): %s, error %d", kind, len(body), short(b), e)
	}
}

// holdParse asks what Parse says of a frame.
func holdParse(t *testing.T, b []byte, kind byte, body []byte) {
	t.Helper()
	if k, c, e := Parse(b); e != api.OK || k != kind || !bytes.Equal(c, body) {
		t.Errorf("Parse(%s): kind %d, %s, error %d; want kind %d, %s", short(b), k, short(c), e, kind, short(body))
	}
}

// refuseParse asks for an error of Parse, and for nothing else beside it.
func refuseParse(t *testing.T, what string, b []byte, want api.Errno) {
	t.Helper()
	if k, c, e := Parse(b); e != want || k != 0 || len(c) != 0 {
		t.Errorf("%s: Parse(%s): kind %d, %s, error %d; want error %d", what, short(b), k, short(c), e, want)
	}
}

// holdAsPlain asks of Parse and Split what the chapter says of any bytes.
func holdAsPlain(t *testing.T, b []byte) {
	t.Helper()
	kind, body, want := plainParse(b)
	if k, c, e := Parse(b); e != want || k != kind || !bytes.Equal(c, body) {
		t.Errorf("Parse(%s): kind %d, %s, error %d; want kind %d, %s, error %d", short(b), k, short(c), e, kind, short(body), want)
	}
	fs, left := plainSplit(b)
	holdSplit(t, b, left, fs...)
}

// sameRows: are rows alike?
func sameRows(a, b [][]byte) bool { return slices.EqualFunc(a, b, bytes.Equal) }

// holdSplit asks for frames and for what is left.
func holdSplit(t *testing.T, b, left []byte, frames ...[]byte) {
	t.Helper()
	fs, rest := Split(b)
	if !sameRows(fs, frames) || !bytes.Equal(rest, left) {
		t.Errorf("Split(%s): %d frames and %s; want %d and %s", short(b), len(fs), short(rest), len(frames), short(left))
	}
	if !bytes.Equal(append(bytes.Join(fs, nil), rest...), b) {
		t.Errorf("Split(%s): its frames and what is left aren't what was handed in", short(b))
	}
}

// bodies are some of few bytes: none, one, many; some look like frames, or like a part of one.
func bodies() [][]byte {
	all := [][]byte{
		nil, {}, {0}, {1}, {255}, {'P'}, []byte("ab"), []byte("PL"), []byte("PL\x01"), []byte("PL\x01\x05\x00\x00\x00\x02ab"), make([]byte, 4), make([]byte, 100),
		bytes.Repeat([]byte{255}, 33), framed(7, []byte("within")), bytes.Repeat(framed(0, nil), 3), framed(9, framed(8, framed(7, nil))),
	}
	for n := range 40 {
		all = append(all, someBytes(uint64(n), n))
	}
	return all
}

// frames are some: of each kind one at least, of all bodies.
func frames() [][]byte {
	var all [][]byte
	bs := bodies()
	for kind := range 256 {
		all = append(all, framed(byte(kind), bs[kind%len(bs)]))
	}
	return all
}

func TestP141PackOfExamples(t *testing.T) {
	for _, c := range []struct {
		kind byte
		body string
		want string
	}{
		{5, "ab", "PL\x01\x05\x00\x00\x00\x02ab\x20\x74\xbf\xe8"},
		{0, "", "PL\x01\x00\x00\x00\x00\x00\x78\xf3\xe0\x07"},
		{255, "123456789", "PL\x01\xff\x00\x00\x00\x09123456789\x5d\x3f\x1d\xfd"},
		{1, "\x00\x00\x00", "PL\x01\x01\x00\x00\x00\x03\x00\x00\x00\x5e\xdb\x30\xd5"},
	} {
		if b := packed(t, c.kind, []byte(c.body)); string(b) != c.want {
			t.Errorf("Pack(%d, %q): %q, want %q", c.kind, c.body, b, c.want)
		}
		holdParse(t, []byte(c.want), c.kind, []byte(c.body))
	}
	b := packed(t, 5, []byte("ab"))
	refuseParse(t, "without its last byte", b[:len(b)-1], api.ErrShort)
}

func TestP141PackOfEachKind(t *testing.T) {
	for kind := range 256 {
		for _, body := range bodies() {
			holdPack(t, byte(kind), body)
		}
	}
}

func TestP141PackOfEachByte(t *testing.T) {
	var each []byte
	for x := range 256 {
		each = append(each, byte(x))
		holdPack(t, byte(255-x), []byte{byte(x)})
		holdPack(t, byte(x), []byte{0, byte(x), byte(x)})
	}
	holdPack(t, 3, each)
	slices.Reverse(each)
	holdPack(t, 3, each)
}

func TestP141PackOfEachLength(t *testing.T) {
	for n := range 600 {
		holdPack(t, byte(n), someBytes(uint64(n), n))
	}
	for _, n := range []int{1023, 1024, 1025, 4096, 65535, 65536, 65537, 0x10203, 0xABCDE, 0xFFFFF, api.MaxBody - 1, api.MaxBody} {
		holdPack(t, byte(n>>8), someBytes(uint64(n), n))
	}
	b := packed(t, 1, make([]byte, 0x10203))
	if !bytes.Equal(b[4:8], []byte{0, 1, 2, 3}) {
		t.Errorf("a body of 66051 bytes: the length is %x", b[4:8])
	}
	b = packed(t, 1, make([]byte, 1048576))
	if !bytes.Equal(b[4:8], []byte{0, 16, 0, 0}) || len(b) != 1048588 {
		t.Errorf("the greatest body: the length is %x, the frame %d bytes", b[4:8], len(b))
	}
}

func TestP141PackOfTooManyBytes(t *testing.T) {
	long := someBytes(1, 3*api.MaxBody)
	for _, n := range []int{api.MaxBody + 1, api.MaxBody + 2, api.MaxBody + 12, 2 * api.MaxBody, len(long)} {
		for _, kind := range []byte{0, 1, 32, 255} {
			refusePack(t, kind, long[:n])
		}
	}
	// Only what the body has counts, not its spare room.
	holdPack(t, 4, long[:2])
	holdPack(t, 4, long[2*api.MaxBody:])
}

func TestP141ParseOfFramesMadeWithoutThePackage(t *testing.T) {
	for kind := range 256 {
		for _, body := range bodies() {
			holdParse(t, framed(byte(kind), body), byte(kind), body)
		}
	}
	for _, n := range []int{api.MaxBody - 1, api.MaxBody} {
		body := someBytes(2, n)
		holdParse(t, framed(77, body), 77, body)
	}
}

func TestP141ParseOfFewBytes(t *testing.T) {
	refuseParse(t, "nil", nil, api.ErrShort)
	refuseParse(t, "empty", []byte{}, api.ErrShort)
	for n := range 12 {
		refuseParse(t, "noughts", make([]byte, n), api.ErrShort)
		refuseParse(t, "any", someBytes(3, n), api.ErrShort)
		refuseParse(t, "the beginning", framed(200, []byte("body"))[:n], api.ErrShort)
		refuseParse(t, "another version", unsigned("PL", 2, 200, 0, make([]byte, 8))[:n], api.ErrShort)
		refuseParse(t, "a length above all", unsigned("PL", 1, 200, math.MaxUint32, make([]byte, 8))[:n], api.ErrShort)
		refuseParse(t, "the beginning, signed", signed(framed(200, nil)[:max(0, n-4)])[:n], api.ErrShort)
	}
	refuseParse(t, "twelve noughts", make([]byte, 12), api.ErrMagic)
	holdParse(t, framed(200, nil), 200, nil)
}

func TestP141ParseOfAFrameCutAtEachByte(t *testing.T) {
	for _, f := range frames() {
		for n := range f {
			refuseParse(t, "the beginning", f[:n], api.ErrShort)
			refuseParse(t, "the beginning, with room for all of it", f[:n:n], api.ErrShort)
			refuseParse(t, "the beginning, signed", signed(f[:max(0, n-4)]), api.ErrShort)
		}
		for n := 1; n < len(f); n++ {
			holdAsPlain(t, f[n:])
		}
	}
	long := framed(200, someBytes(4, api.MaxBody))
	for _, n := range []int{0, 11, 12, 13, 1 << 19, len(long) - 5, len(long) - 4, len(long) - 2, len(long) - 1} {
		refuseParse(t, "a long one", long[:n], api.ErrShort)
	}
}

func TestP141ParseOfMoreBytes(t *testing.T) {
	for i, f := range frames() {
		for _, more := range [][]byte{{0}, {1}, {255}, someBytes(uint64(i), 1+i%30), f[:1], f, framed(1, []byte("more"))} {
			refuseParse(t, "more bytes", bytes.Join([][]byte{f, more}, nil), api.ErrExtra)
			refuseParse(t, "more bytes, signed", signed(bytes.Join([][]byte{f[:len(f)-4], more}, nil)), api.ErrExtra)
			refuseParse(t, "more bytes ahead of the sum", bytes.Join([][]byte{f[:len(f)-4], more, f[len(f)-4:]}, nil), api.ErrExtra)
		}
	}
	long := framed(200, someBytes(5, api.MaxBody))
	refuseParse(t, "a long one", append(slices.Clone(long), 0), api.ErrExtra)
	refuseParse(t, "a long one, signed", signed(append(slices.Clone(long[:len(long)-4]), 0)), api.ErrExtra)
}

func TestP141ParseOfOtherLengths(t *testing.T) {
	for _, n := range []int{0, 1, 2, 255, 256, 257, 300, 65536} {
		body := someBytes(uint64(n), n)
		for _, says := range []int{0, 1, 2, 3, n - 2, n - 1, n, n + 1, n + 2, n + 4, n + 255, n + 256, n << 8, n >> 8, 65535, 65536, api.MaxBody - 1, api.MaxBody} {
			b := signed(unsigned("PL", 1, 200, uint32(max(0, says)), body))
			switch {
			case says > api.MaxBody:
				refuseParse(t, "it says too many", b, api.ErrLong)
			case says > n:
				refuseParse(t, "it says more", b, api.ErrShort)
			case max(0, says) < n:
				refuseParse(t, "it says fewer", b, api.ErrExtra)
			default:
				holdParse(t, b, 200, body)
			}
		}
	}
	// The length's bytes, turned about, are others.
	refuseParse(t, "the least byte first", signed(unsigned("PL", 1, 200, 0x100, []byte{9})), api.ErrShort)
	refuseParse(t, "the least byte first", signed(unsigned("PL", 1, 200, 1, make([]byte, 0x100))), api.ErrExtra)
	refuseParse(t, "the least byte first", signed(unsigned("PL", 1, 200, 0x01000000, []byte{9})), api.ErrLong)
}

func TestP141ParseOfLengthsThatAreTooGreat(t *testing.T) {
	holdParse(t, framed(200, make([]byte, api.MaxBody)), 200, make([]byte, api.MaxBody))
	refuseParse(t, "just MaxBody", signed(unsigned("PL", 1, 200, api.MaxBody, nil)), api.ErrShort)
	refuseParse(t, "just MaxBody", signed(unsigned("PL", 1, 200, api.MaxBody, make([]byte, api.MaxBody-1))), api.ErrShort)
	refuseParse(t, "just MaxBody", signed(unsigned("PL", 1, 200, api.MaxBody, make([]byte, api.MaxBody+1))), api.ErrExtra)
	long := make([]byte, api.MaxBody+2)
	for n := api.MaxBody; n <= len(long); n++ {
		refuseParse(t, "one above", signed(unsigned("PL", 1, 200, api.MaxBody+1, long[:n])), api.ErrLong)
	}
	// Some of these are just as many as there are, by their rest of 2^32 or by their sign.
	for _, says := range []uint32{api.MaxBody + 1, api.MaxBody + 2, 2 * api.MaxBody, 1 << 24, 1<<24 + 2, 1<<31 - 12, 1<<31 - 1, 1 << 31, 1<<31 + 2, math.MaxUint32 - 12, math.MaxUint32 - 11, math.MaxUint32 - 10, math.MaxUint32 - 1, math.MaxUint32} {
		for n := range 30 {
			refuseParse(t, "far above", signed(unsigned("PL", 1, 200, says, someBytes(6, n))), api.ErrLong)
		}
	}
}

func TestP141ParseOfOtherVersions(t *testing.T) {
	for version := range 256 {
		if version == 1 {
			continue
		}
		for _, body := range [][]byte{nil, {1}, []byte("ab"), someBytes(7, 90)} {
			refuseParse(t, "a version", signed(unsigned("PL", byte(version), 200, uint32(len(body)), body)), api.ErrKind)
			refuseParse(t, "a version, the kind 1", signed(unsigned("PL", byte(version), 1, uint32(len(body)), body)), api.ErrKind)
		}
	}
}

func TestP141ParseOfOtherLetters(t *testing.T) {
	for x := range 256 {
		if x != 'P' {
			refuseParse(t, "the first letter", signed(unsigned(string([]byte{byte(x), 'L'}), 1, 200, 2, []byte("ab"))), api.ErrMagic)
		}
		if x != 'L' {
			refuseParse(t, "the second letter", signed(unsigned(string([]byte{'P', byte(x)}), 1, 200, 2, []byte("ab"))), api.ErrMagic)
		}
	}
	for _, letters := range []string{"LP", "pl", "PP", "LL", "\x00\x00", "Pl", "pL", "\xd0\xcc"} {
		refuseParse(t, "letters", signed(unsigned(letters, 1, 200, 0, nil)), api.ErrMagic)
	}
	f := framed(200, []byte("PL"))
	refuseParse(t, "one byte ahead", append([]byte{0}, f...), api.ErrMagic)
	refuseParse(t, "one byte on", f[1:], api.ErrMagic)
}

func TestP141ParseOfOtherSums(t *testing.T) {
	for _, body := range bodies() {
		f := framed(200, body)
		end := len(f) - 4
		sum := binary.BigEndian.Uint32(f[end:])
		others := []uint32{sum + 1, sum - 1, ^sum, -sum, sum << 8, sum >> 8, sum<<16 | sum>>16, 0, math.MaxUint32, crc32.ChecksumIEEE(body), crc32.ChecksumIEEE(f), crc32.ChecksumIEEE(f[2:end]), crc32.ChecksumIEEE(f[3:end]), crc32.ChecksumIEEE(f[8:end]), crc32.ChecksumIEEE(f[:end-1])}
		for bit := range 32 {
			others = append(others, sum^1<<bit)
		}
		little := slices.Clone(f[end:])
		slices.Reverse(little)
		for _, x := range append(others, binary.BigEndian.Uint32(little)) {
			b := binary.BigEndian.AppendUint32(slices.Clone(f[:end]), x)
			if x == sum {
				holdParse(t, b, 200, body)
			} else {
				refuseParse(t, "a sum", b, api.ErrSum)
			}
		}
	}
	f := framed(200, someBytes(8, api.MaxBody))
	f[len(f)-1]++
	refuseParse(t, "a long one's sum", f, api.ErrSum)
}

// Each set of faults at once: the first one, in the promise's order, is told.
func TestP141ParseOfSeveralFaults(t *testing.T) {
	for faults := range 1 << 7 {
		has := func(i int) bool { return faults>>i&1 == 1 }
		letters, version, length, many := "PL", byte(1), uint32(20), 20
		want := api.OK
		if has(6) {
			want = api.ErrSum
		}
		if has(5) {
			want, many = api.ErrExtra, 21
		}
		if has(4) {
			want, many = api.ErrShort, 19
		}
		if has(3) {
			want, length = api.ErrLong, api.MaxBody+1
		}
		if has(2) {
			want, version = api.ErrKind, 2
		}
		if has(1) {
			want, letters = api.ErrMagic, "PM"
		}
		b := signed(unsigned(letters, version, 200, length, someBytes(9, many)))
		if has(6) {
			b[len(b)-4] ^= 1
		}
		if has(0) {
			want, b = api.ErrShort, b[:11]
		}
		if want == api.OK {
			holdParse(t, b, 200, someBytes(9, many))
		} else {
			refuseParse(t, fmt.Sprintf("the faults %b", faults), b, want)
		}
		holdAsPlain(t, b)
	}
}

func TestP141ParseOfAnyBytes(t *testing.T) {
	next := steady(10)
	for range 20000 {
		b := someBytes(next(), int(next()>>40%60))
		holdAsPlain(t, b)
		// As far as any bytes seldom come: with right letters, version, length, sum ahead of what is at random.
		for i, x := range []byte{'P', 'L', 1, byte(next() >> 20), 0, 0, 0, byte(next() >> 30 % 50)} {
			if i < len(b) {
				b[i] = x
				holdAsPlain(t, b)
			}
		}
		holdAsPlain(t, signed(b))
	}
}

func TestP142SplitOfJoinOfFrames(t *testing.T) {
	all := frames()
	for i := range all {
		holdSplit(t, all[i], nil, all[i])
		holdSplit(t, Join(all[:i]...), nil, all[:i]...)
		holdSplit(t, Join(all[i:]...), nil, all[i:]...)
		holdSplit(t, Join(all[i], all[0], all[i]), nil, all[i], all[0], all[i])
	}
	next := steady(11)
	for range 2000 {
		var some [][]byte
		for range next() >> 40 % 12 {
			some = append(some, packed(t, byte(next()>>16), someBytes(next(), int(next()>>40%50))))
		}
		holdSplit(t, Join(some...), nil, some...)
	}
}

func TestP142SplitOfTheGreatestFrames(t *testing.T) {
	long, small := packed(t, 3, someBytes(12, api.MaxBody)), packed(t, 4, nil)
	holdSplit(t, Join(long, small, long), nil, long, small, long)
	holdSplit(t, Join(small, long[:len(long)-1]), long[:len(long)-1], small)
	holdSplit(t, Join(long, long[1:]), long[1:], long)
	tooLong := signed(unsigned("PL", 1, 3, api.MaxBody+1, make([]byte, api.MaxBody+1)))
	holdSplit(t, Join(small, tooLong, small), Join(tooLong, small), small)
}

func TestP142SplitOfManyFrames(t *testing.T) {
	var many [][]byte
	for i := range 50000 {
		many = append(many, framed(byte(i), someBytes(uint64(i), i%3)))
	}
	holdSplit(t, bytes.Join(many, nil), nil, many...)
}

func TestP142SplitOfNothing(t *testing.T) {
	holdSplit(t, nil, nil)
	holdSplit(t, []byte{}, nil)
	holdSplit(t, Join(), nil)
	holdSplit(t, Join(nil, []byte{}, nil), nil)
	fs, left := Split(nil)
	if len(fs) != 0 || len(left) != 0 {
		t.Errorf("Split(nil): %d frames, %d bytes", len(fs), len(left))
	}
}

func TestP142SplitLeavesWhatIsNoFrame(t *testing.T) {
	for i, f := range frames() {
		for _, left := range [][]byte{{0}, {'P'}, []byte("PL"), []byte("LP"), make([]byte, 12), make([]byte, 40), someBytes(uint64(i), 1+i%50), f[1:], f[2:], append([]byte{'P'}, f...), unsigned("PL", 2, 1, 0, make([]byte, 4)), signed(unsigned("PL", 2, 1, 0, nil)), signed(unsigned("PM", 1, 1, 0, nil)), signed(unsigned("PL", 1, 1, math.MaxUint32, nil)), signed(unsigned("PL", 1, 1, math.MaxUint32-11, nil)), signed(unsigned("PL", 1, 1, 1, nil))} {
			holdSplit(t, left, left)
			holdSplit(t, bytes.Join([][]byte{f, left}, nil), left, f)
			holdSplit(t, bytes.Join([][]byte{f, f, left}, nil), left, f, f)
			// Right frames behind what is none aren't looked for.
			behind := bytes.Join([][]byte{left, f}, nil)
			if _, _, e := plainParse(behind[:min(len(behind), 13)]); e != api.ErrMagic {
				continue
			}
			holdSplit(t, behind, behind)
			holdSplit(t, bytes.Join([][]byte{f, behind}, nil), behind, f)
		}
	}
}

func TestP142SplitLeavesTheBeginningOfAFrame(t *testing.T) {
	last := framed(9, someBytes(13, 25))
	for _, f := range frames() {
		for n := range last {
			holdSplit(t, bytes.Join([][]byte{f, last[:n]}, nil), last[:n], f)
		}
		for n := range f {
			holdSplit(t, f[:n], f[:n])
			holdSplit(t, bytes.Join([][]byte{last, last, f[:n]}, nil), f[:n], last, last)
		}
	}
}

// Whatever byte of a frame is spoilt, and however: those ahead of it are there, and it is left with all behind it.
func TestP142SplitLeavesASpoiltFrameAndAllBehindIt(t *testing.T) {
	first, behind := framed(1, []byte("first")), framed(3, nil)
	for _, body := range [][]byte{nil, {0}, []byte("middle"), framed(7, nil)} {
		middle := framed(2, body)
		for at := range middle {
			for x := 1; x < 256; x++ {
				spoilt := slices.Clone(middle)
				spoilt[at] ^= byte(x)
				left := bytes.Join([][]byte{spoilt, behind, behind}, nil)
				holdSplit(t, bytes.Join([][]byte{first, left}, nil), left, first)
				holdSplit(t, left, left)
			}
		}
	}
}

// What a frame's body says is its own, be it a frame.
func TestP142SplitLooksIntoNoBody(t *testing.T) {
	inner := framed(1, []byte("inner"))
	for _, f := range [][]byte{framed(2, inner), framed(3, bytes.Join([][]byte{inner, inner}, nil)), framed(4, framed(5, inner))} {
		holdSplit(t, bytes.Join([][]byte{f, inner, f}, nil), nil, f, inner, f)
		left := slices.Clone(f)
		left[len(left)-1]++
		holdSplit(t, left, left)
		holdSplit(t, bytes.Join([][]byte{f[:8], inner}, nil), bytes.Join([][]byte{f[:8], inner}, nil))
	}
}

func TestP142SplitOfWhatIsLeft(t *testing.T) {
	next := steady(14)
	for range 3000 {
		var rows [][]byte
		for range next() >> 40 % 8 {
			f := framed(byte(next()>>16), someBytes(next(), int(next()>>40%20)))
			switch next() >> 40 % 9 {
			case 0:
				f[next()>>20%uint64(len(f))] ^= byte(1 + next()>>30%255)
			case 1:
				f = f[:next()>>20%uint64(len(f))]
			case 2:
				f = someBytes(next(), int(next()>>40%30))
			}
			rows = append(rows, f)
		}
		b := bytes.Join(rows, nil)
		holdAsPlain(t, b)
		fs, left := Split(b)
		holdSplit(t, left, left)
		holdSplit(t, Join(fs...), nil, fs...)
		if got := Join(append(fs, left)...); !bytes.Equal(got, b) {
			t.Errorf("Join of Split(%s): %s", short(b), short(got))
		}
		for _, f := range fs {
			if k, c, e := Parse(f); e != api.OK || !bytes.Equal(packed(t, k, c), f) {
				t.Errorf("Split(%s): a frame is %s, Parse's error %d", short(b), short(f), e)
			}
		}
	}
}

func TestP142JoinOfAnyRows(t *testing.T) {
	a, b, f := []byte("a"), []byte("bc"), framed(6, []byte("frame"))
	for _, c := range []struct {
		rows [][]byte
		want string
	}{
		{nil, ""}, {[][]byte{}, ""}, {[][]byte{nil}, ""}, {[][]byte{{}}, ""}, {[][]byte{nil, nil, {}}, ""},
		{[][]byte{a}, "a"}, {[][]byte{a, b}, "abc"}, {[][]byte{b, a}, "bca"}, {[][]byte{nil, a, nil, b, {}}, "abc"}, {[][]byte{a, a, a}, "aaa"},
		{[][]byte{f}, string(f)}, {[][]byte{f, f}, string(f) + string(f)}, {[][]byte{f[:3], f[3:], f}, string(f) + string(f)}, {[][]byte{{0}, {255}}, "\x00\xff"},
	} {
		if got := Join(c.rows...); string(got) != c.want {
			t.Errorf("Join(%q): %q, want %q", c.rows, got, c.want)
		}
	}
	long := someBytes(15, 2*api.MaxBody)
	if got := Join(long[:5], long[5:api.MaxBody], long[api.MaxBody:]); !bytes.Equal(got, long) {
		t.Errorf("Join of long rows: %s, want %s", short(got), short(long))
	}
	var rows [][]byte
	for i := range long[:20000] {
		rows = append(rows, long[i:i+1])
	}
	if got := Join(rows...); !bytes.Equal(got, long[:20000]) {
		t.Errorf("Join of many rows: %s, want %s", short(got), short(long))
	}
}

// turnedError is what Parse says of a frame in which one byte is another one.
func turnedError(f []byte, at int, x byte) api.Errno {
	switch {
	case at < 2:
		return api.ErrMagic
	case at == 2:
		return api.ErrKind
	case at == 3 || at > 7:
		return api.ErrSum
	}
	says := slices.Clone(f[4:8])
	says[at-4] = x
	switch {
	case binary.BigEndian.Uint32(says) > api.MaxBody:
		return api.ErrLong
	case x > f[at]:
		return api.ErrShort
	}
	return api.ErrExtra
}

func TestP143EachByteTurnedToEachOther(t *testing.T) {
	all := [][]byte{framed(9, someBytes(16, 258)), framed(1, make([]byte, 65))}
	for _, kind := range []byte{0, 1, 5, 255} {
		for _, body := range [][]byte{nil, {0}, []byte("ab"), framed(3, nil), someBytes(17, 33)} {
			all = append(all, framed(kind, body))
		}
	}
	for _, f := range all {
		for at := range f {
			for x := range 256 {
				b := slices.Clone(f)
				if b[at] = byte(x); b[at] != f[at] {
					refuseParse(t, fmt.Sprintf("byte %d is %d", at, x), b, turnedError(f, at, byte(x)))
					holdSplit(t, b, b)
				}
			}
		}
	}
}

func TestP143AByteOfALongFrameTurned(t *testing.T) {
	next := steady(19)
	for _, n := range []int{66000, api.MaxBody} {
		f := framed(4, someBytes(20, n))
		for at := range 12 {
			b := slices.Clone(f)
			b[at] ^= byte(1 + next()>>20%255)
			refuseParse(t, fmt.Sprintf("byte %d", at), b, turnedError(f, at, b[at]))
		}
		for range 20 {
			b, at := slices.Clone(f), 8+int(next()>>20%uint64(n+4))
			b[at] ^= byte(1 + next()>>20%255)
			refuseParse(t, fmt.Sprintf("byte %d", at), b, api.ErrSum)
		}
	}
}

// roomy is b with spare room behind it, and all of that.
func roomy(b []byte) (whole, part []byte) {
	whole = append(slices.Clone(b), 11, 22, 33, 44, 55, 66, 77, 88, 99, 110, 121, 132, 143, 154, 165, 176)
	return whole, whole[:len(b)]
}

// spoil changes all bytes, their spare room with them.
func spoil(b []byte) {
	b = b[:cap(b)]
	for i := range b {
		b[i] ^= 0x55
	}
}

func TestP143PackedFramesAreNewMemory(t *testing.T) {
	for _, body := range bodies() {
		whole, b := roomy(body)
		kept := slices.Clone(whole)
		first, second := packed(t, 9, b), packed(t, 9, b)
		spoil(second)
		if !bytes.Equal(whole, kept) || !bytes.Equal(first, framed(9, body)) {
			t.Errorf("Pack(%s): a change of an answer changed another, or what was handed in", short(body))
		}
		holdPack(t, 9, b)
		spoil(whole)
		if !bytes.Equal(first, framed(9, body)) {
			t.Errorf("Pack(%s): a change of what was handed in changed an answer", short(body))
		}
	}
}

func TestP143ParsedBodiesAreNewMemory(t *testing.T) {
	for _, body := range bodies() {
		whole, b := roomy(framed(9, body))
		kept := slices.Clone(whole)
		_, first, _ := Parse(b)
		_, second, _ := Parse(b)
		spoil(second)
		if !bytes.Equal(whole, kept) || !bytes.Equal(first, body) {
			t.Errorf("Parse of %s: a change of an answer changed another, or what was handed in", short(body))
		}
		holdParse(t, b, 9, body)
		spoil(whole)
		if !bytes.Equal(first, body) {
			t.Errorf("Parse of %s: a change of what was handed in changed an answer", short(body))
		}
	}
}

// someSplits are bytes that Split tells apart in all ways: of no frame, one, many; with something left and nothing.
func someSplits() [][]byte {
	f, g := framed(1, []byte("one")), framed(2, nil)
	return [][]byte{
		nil, []byte("left"), f, f[:5], bytes.Join([][]byte{f, g}, nil), bytes.Join([][]byte{f, g, f[:9]}, nil), bytes.Join([][]byte{g, g, g, f, []byte("left"), f}, nil), bytes.Join(frames(), nil),
	}
}

func TestP143SplitFramesAreNewMemory(t *testing.T) {
	for _, bs := range someSplits() {
		whole, b := roomy(bs)
		kept := slices.Clone(whole)
		wanted, wantedLeft := plainSplit(bs)
		first, firstLeft := Split(b)
		second, secondLeft := Split(b)
		for _, f := range second {
			spoil(f)
		}
		spoil(secondLeft)
		clear(second[:cap(second)])
		if !bytes.Equal(whole, kept) || !sameRows(first, wanted) || !bytes.Equal(firstLeft, wantedLeft) {
			t.Errorf("Split(%s): a change of an answer changed another, or what was handed in", short(bs))
		}
		holdSplit(t, b, wantedLeft, wanted...)
		spoil(whole)
		if !sameRows(first, wanted) || !bytes.Equal(firstLeft, wantedLeft) {
			t.Errorf("Split(%s): a change of what was handed in changed an answer", short(bs))
		}
	}
}

// Each list of Split's answer is changed alone, its spare room with it, and all others are held against what they were.
func TestP143TheListsOfOneSplitShareNothing(t *testing.T) {
	for _, b := range someSplits() {
		wanted, wantedLeft := plainSplit(b)
		for i := range min(len(wanted), 30) {
			fs, left := Split(b)
			spoil(fs[i])
			for k, f := range fs {
				if k != i && !bytes.Equal(f, wanted[k]) {
					t.Errorf("Split(%s): a change of frame %d changed frame %d", short(b), i, k)
				}
			}
			if !bytes.Equal(left, wantedLeft) {
				t.Errorf("Split(%s): a change of frame %d changed what is left", short(b), i)
			}
		}
		fs, left := Split(b)
		spoil(left)
		if !sameRows(fs, wanted) {
			t.Errorf("Split(%s): a change of what is left changed a frame", short(b))
		}
	}
}

func TestP143JoinedRowsAreNewMemory(t *testing.T) {
	for _, rows := range [][][]byte{{nil}, {[]byte("a")}, {framed(1, nil)}, {[]byte("a"), []byte("bc")}, {nil, []byte("a")}, {[]byte("a"), nil}, {nil, []byte("a"), nil}, frames()} {
		var wholes, parts [][]byte
		for _, row := range rows {
			whole, part := roomy(row)
			wholes, parts = append(wholes, whole), append(parts, part)
		}
		kept := bytes.Join(wholes, nil)
		parts = append(parts, []byte("spare"))[:len(rows)]
		first, second := Join(parts...), Join(parts...)
		spoil(second)
		if !bytes.Equal(bytes.Join(wholes, nil), kept) || !bytes.Equal(first, bytes.Join(rows, nil)) {
			t.Errorf("Join of %d rows: a change of an answer changed another, or what was handed in", len(rows))
		}
		if !sameRows(parts, rows) || string(parts[:len(rows)+1][len(rows)]) != "spare" {
			t.Errorf("Join of %d rows: the list that was handed in is another", len(rows))
		}
		for _, whole := range wholes {
			spoil(whole)
		}
		clear(parts)
		if !bytes.Equal(first, bytes.Join(rows, nil)) {
			t.Errorf("Join of %d rows: a change of what was handed in changed an answer", len(rows))
		}
	}
}

// One row stands in the spare room of another.
func TestP143JoinOfRowsOfOneMemory(t *testing.T) {
	b := []byte("abcdefgh")
	if got := Join(b[:2], b[4:6], b[1:3], b[:0], b); string(got) != "abefbcabcdefgh" || string(b) != "abcdefgh" {
		t.Errorf("Join: %q, and what was handed in is %q", got, b)
	}
	f := framed(1, b)
	if got := Join(f[:12], f[12:], f); !bytes.Equal(got, append(slices.Clone(f), f...)) || !bytes.Equal(f, framed(1, b)) {
		t.Errorf("Join: %q, and what was handed in is %q", got, f)
	}
}

func TestP143WhatIsRefusedIsNotChanged(t *testing.T) {
	f := framed(200, someBytes(21, 30))
	for _, b := range [][]byte{f[:5], f[:20], append(slices.Clone(f), 1), signed(f), someBytes(22, 40), signed(unsigned("PL", 2, 1, 0, nil)), signed(unsigned("PL", 1, 1, math.MaxUint32, nil)), append(f[:len(f)-1:len(f)-1], ^f[len(f)-1])} {
		whole, part := roomy(b)
		kept := slices.Clone(whole)
		if _, _, e := Parse(part); e == api.OK {
			t.Errorf("Parse(%s): OK", short(b))
		}
		Split(part)
		if !bytes.Equal(whole, kept) {
			t.Errorf("Parse or Split of %s: what was handed in is another", short(b))
		}
	}
	long := someBytes(23, api.MaxBody+1)
	kept := slices.Clone(long)
	refusePack(t, 1, long)
	if !bytes.Equal(long, kept) {
		t.Error("Pack: what was handed in is another")
	}
}

// What one call answers hangs on no call ahead of it.
func TestP143NothingIsKept(t *testing.T) {
	f := framed(5, []byte("ab"))
	for range 3 {
		holdPack(t, 5, []byte("ab"))
		refusePack(t, 5, make([]byte, api.MaxBody+1))
		holdPack(t, 6, nil)
		refuseParse(t, "nil", nil, api.ErrShort)
		holdParse(t, f, 5, []byte("ab"))
		refuseParse(t, "a sum", append(f[:13:13], ^f[13]), api.ErrSum)
		holdSplit(t, f[:9], f[:9])
		holdSplit(t, f[9:], f[9:])
		holdSplit(t, f, nil, f)
		holdSplit(t, nil, nil)
	}
}
