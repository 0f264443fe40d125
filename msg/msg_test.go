package msg

import (
	"bytes"
	"encoding/binary"
	"encoding/hex"
	"fmt"
	"hash/crc32"
	"math"
	"slices"
	"strings"
	"testing"

	"peloton/api"
)

// order are the seven numbers, a letter each (A is Part), as the chapter orders them.
const order = "ERPLSAT"

// told is the chapter's table: by kind, which numbers mean something, and whether there may be a List.
var told = map[int]struct {
	numbers string
	list    bool
}{
	1:  {"ERPT", false},
	2:  {"ERPL", true},
	3:  {"ERPLSA", true},
	4:  {"ERPT", false},
	5:  {"ESA", false},
	6:  {"E", false},
	7:  {"ESA", false},
	8:  {"ERA", false},
	9:  {"RT", true},
	10: {"R", false},
	11: {"RT", false},
	12: {"RPT", false},
	13: {"RP", false},
}

// number is where a message has one of its numbers.
func number(m *api.Msg, letter rune) *int {
	switch letter {
	case 'E':
		return &m.Epoch
	case 'R':
		return &m.Request
	case 'P':
		return &m.Place
	case 'L':
		return &m.Layer
	case 'S':
		return &m.Step
	case 'A':
		return &m.Part
	case 'T':
		return &m.Token
	}
	panic("no such number")
}

// steady answers numbers by a fixed rule, so that a test is the same each time.
func steady(seed uint64) func() uint64 {
	return func() uint64 {
		seed = seed*6364136223846793005 + 1442695040888963407
		return seed ^ seed>>29
	}
}

// someBytes are n bytes that hang on a seed.
func someBytes(seed uint64, n int) []byte {
	next := steady(seed)
	b := make([]byte, n)
	for i := range b {
		b[i] = byte(next() >> 16)
	}
	return b
}

// someList are n numbers that hang on a seed.
func someList(seed uint64, n int) []int32 {
	next := steady(seed)
	list := make([]int32, n)
	for i := range list {
		list[i] = int32(next() >> 24)
	}
	return list
}

// signed are bytes with their check sum behind them; made without the packages.
func signed(b []byte) []byte {
	return binary.BigEndian.AppendUint32(slices.Clone(b), crc32.ChecksumIEEE(b))
}

// unsigned are layer 14's frame without its sum, of any letters, version, kind and length.
func unsigned(letters string, version, kind byte, length uint32, body []byte) []byte {
	b := append([]byte(letters), version, kind)
	return append(binary.BigEndian.AppendUint32(b, length), body...)
}

// framed is layer 14's frame; made without the packages.
func framed(kind byte, body []byte) []byte {
	return signed(unsigned("PL", 1, kind, uint32(len(body)), body))
}

// five is a number in five bytes.
func five(n int) []byte { return binary.BigEndian.AppendUint64(nil, uint64(n))[3:] }

// listed is a List, and how many numbers it says that it has.
func listed(says int, list []int32) []byte {
	b := binary.BigEndian.AppendUint16(nil, uint16(says))
	for _, x := range list {
		b = binary.BigEndian.AppendUint32(b, uint32(x))
	}
	return b
}

// plainBody is the body that the chapter tells of a right message.
func plainBody(m api.Msg) []byte {
	var b []byte
	for _, letter := range told[m.Kind].numbers {
		b = append(b, five(*number(&m, letter))...)
	}
	if told[m.Kind].list {
		b = append(b, listed(len(m.List), m.List)...)
	}
	return b
}

// plainBytes are the frame that the chapter tells of a right message.
func plainBytes(m api.Msg) []byte { return framed(byte(m.Kind), plainBody(m)) }

// plainRight is what the chapter calls right.
func plainRight(m api.Msg) bool {
	kind, ok := told[m.Kind]
	for _, letter := range order {
		n := *number(&m, letter)
		ok = ok && n >= 0 && n <= 1099511627775 && (n == 0 || strings.ContainsRune(kind.numbers, letter))
	}
	return ok && len(m.List) <= 4096 && (kind.list || len(m.List) == 0)
}

// plainFrame is what layer 14 says of bytes: their error, or none.
func plainFrame(b []byte) api.Errno {
	switch {
	case len(b) < 12:
		return api.ErrShort
	case b[0] != 'P' || b[1] != 'L':
		return api.ErrMagic
	case b[2] != 1:
		return api.ErrKind
	}
	length := int(binary.BigEndian.Uint32(b[4:]))
	switch {
	case length > 1048576:
		return api.ErrLong
	case len(b) < 12+length:
		return api.ErrShort
	case len(b) > 12+length:
		return api.ErrExtra
	case crc32.ChecksumIEEE(b[:8+length]) != binary.BigEndian.Uint32(b[8+length:]):
		return api.ErrSum
	}
	return api.OK
}

// plainParse is what P15.1 says of Parse.
func plainParse(b []byte) (api.Msg, api.Errno) {
	if e := plainFrame(b); e != api.OK {
		return api.Msg{}, e
	}
	m, body := api.Msg{Kind: int(b[3])}, b[8:len(b)-4]
	kind, ok := told[m.Kind]
	count, head := 0, 5*len(kind.numbers)
	if kind.list && len(body) >= head+2 {
		count = int(binary.BigEndian.Uint16(body[head:]))
	}
	size := head
	if kind.list {
		size += 2 + 4*count
	}
	if !ok || len(body) != size || count > 4096 {
		return api.Msg{}, api.ErrForm
	}
	for i, letter := range kind.numbers {
		for _, x := range body[5*i : 5*i+5] {
			*number(&m, letter) = 256**number(&m, letter) + int(x)
		}
	}
	for i := range count {
		m.List = append(m.List, int32(binary.BigEndian.Uint32(body[head+2+4*i:])))
	}
	return m, api.OK
}

// alike: are messages the same?
func alike(a, b api.Msg) bool {
	for _, letter := range order {
		if *number(&a, letter) != *number(&b, letter) {
			return false
		}
	}
	return a.Kind == b.Kind && slices.Equal(a.List, b.List)
}

// shortBytes is what a failed test tells of bytes.
func shortBytes(b []byte) string { return fmt.Sprintf("%d bytes, %x", len(b), b[:min(len(b), 60)]) }

// short is what a failed test tells of a message.
func short(m api.Msg) string {
	numbers := []int{m.Kind}
	for _, letter := range order {
		numbers = append(numbers, *number(&m, letter))
	}
	return fmt.Sprintf("%d, and %d in the List: %d", numbers, len(m.List), m.List[:min(len(m.List), 9)])
}

// hold asks that a message is right, for its bytes, and that these say it.
func hold(t *testing.T, m api.Msg) {
	t.Helper()
	if !Right(m) {
		t.Errorf("Right(%s): false", short(m))
	}
	b, e := Bytes(m)
	if want := plainBytes(m); e != api.OK || !bytes.Equal(b, want) {
		t.Errorf("Bytes(%s): %s, error %d; want %s", short(m), shortBytes(b), e, shortBytes(want))
	}
	holdParse(t, b, m)
}

// refuse asks that a message isn't right, and has no bytes.
func refuse(t *testing.T, m api.Msg) {
	t.Helper()
	if Right(m) {
		t.Errorf("Right(%s): true", short(m))
	}
	if b, e := Bytes(m); e != api.ErrForm || len(b) != 0 {
		t.Errorf("Bytes(%s): %s, error %d", short(m), shortBytes(b), e)
	}
}

// holdAny asks of a message what the chapter says, whether it is right or not.
func holdAny(t *testing.T, m api.Msg) {
	t.Helper()
	if plainRight(m) {
		hold(t, m)
	} else {
		refuse(t, m)
	}
}

// holdParse asks which message bytes say, and that it has these bytes.
func holdParse(t *testing.T, b []byte, want api.Msg) {
	t.Helper()
	m, e := Parse(b)
	if e != api.OK || !alike(m, want) {
		t.Errorf("Parse(%s): %s, error %d; want %s", shortBytes(b), short(m), e, short(want))
	}
	if again, e := Bytes(m); e != api.OK || !bytes.Equal(again, b) {
		t.Errorf("Bytes of Parse(%s): %s, error %d", shortBytes(b), shortBytes(again), e)
	}
}

// refuseParse asks for an error of Parse, and for nothing else beside it.
func refuseParse(t *testing.T, what string, b []byte, want api.Errno) {
	t.Helper()
	if m, e := Parse(b); e != want || !alike(m, api.Msg{}) {
		t.Errorf("%s: Parse(%s): %s, error %d; want error %d", what, shortBytes(b), short(m), e, want)
	}
}

// holdAsPlain asks of Parse what the chapter says of any bytes.
func holdAsPlain(t *testing.T, b []byte) {
	t.Helper()
	if m, e := plainParse(b); e != api.OK {
		refuseParse(t, "as the chapter says", b, e)
	} else {
		holdParse(t, b, m)
	}
}

// holdSame asks whether messages are the same, whichever of them is named first.
func holdSame(t *testing.T, a, b api.Msg, want bool) {
	t.Helper()
	if Same(a, b) != want || Same(b, a) != want {
		t.Errorf("Same(%s; %s): %t, and turned about %t; want %t", short(a), short(b), Same(a, b), Same(b, a), want)
	}
}

// full is a message of a kind, each number that means something another one, all their bytes too.
func full(kind int) api.Msg {
	m := api.Msg{Kind: kind}
	for i, letter := range told[kind].numbers {
		*number(&m, letter) = 0x0102030405 + 0x1010101010*(i+1)
	}
	if told[kind].list {
		m.List = []int32{math.MinInt32, -0x01020304, -1, 0, 1, 0x01020304, math.MaxInt32}
	}
	return m
}

// some is a right message of a kind, out of a seed.
func some(seed uint64, kind int) api.Msg {
	next := steady(seed)
	m := api.Msg{Kind: kind}
	for _, letter := range told[kind].numbers {
		*number(&m, letter) = int(next() >> 10 & (1<<40 - 1) >> (next() >> 20 % 40))
	}
	if told[kind].list {
		m.List = someList(seed, int(next()>>20%20))
	}
	return m
}

// messages are right ones of all kinds: of noughts, of small numbers, of great ones, of any.
func messages() []api.Msg {
	var all []api.Msg
	for kind := 1; kind <= 13; kind++ {
		least, ones, most := api.Msg{Kind: kind}, api.Msg{Kind: kind}, api.Msg{Kind: kind}
		for _, letter := range told[kind].numbers {
			*number(&ones, letter), *number(&most, letter) = 1, api.MaxNum-1
		}
		if told[kind].list {
			ones.List, most.List = []int32{1}, []int32{-1, math.MaxInt32}
		}
		all = append(all, least, ones, most, full(kind))
		for seed := range 12 {
			all = append(all, some(uint64(100*kind+seed), kind))
		}
	}
	return all
}

func TestP151BytesOfExamples(t *testing.T) {
	for _, c := range []struct {
		m    api.Msg
		want string
	}{
		{api.Msg{Kind: 5, Epoch: 3, Step: 1, Part: 2}, "504c0105 0000000f 0000000003 0000000001 0000000002 dfbecdcc"},
		{api.Msg{Kind: 6}, "504c0106 00000005 0000000000 afcab5b6"},
		{api.Msg{Kind: 9, Request: 258, Token: 3, List: []int32{-2, 7}}, "504c0109 00000014 0000000102 0000000003 0002 fffffffe 00000007 4e7b78f8"},
		{api.Msg{Kind: 3, Epoch: 1, Request: 2, Place: 3, Layer: 4, Step: 5, Part: 6}, "504c0103 00000020 0000000001 0000000002 0000000003 0000000004 0000000005 0000000006 0000 7b5ed672"},
	} {
		want, err := hex.DecodeString(strings.ReplaceAll(c.want, " ", ""))
		if err != nil {
			t.Fatal(err)
		}
		if b, e := Bytes(c.m); e != api.OK || !bytes.Equal(b, want) {
			t.Errorf("Bytes(%s): %s, error %d; want %s", short(c.m), shortBytes(b), e, shortBytes(want))
		}
		holdParse(t, want, c.m)
	}
}

// The bodies are written out, number by number, with api's names, so that the tests' own table is asked, too.
func TestP151BytesOfEachKind(t *testing.T) {
	for _, c := range []struct {
		m    api.Msg
		body string
	}{
		{api.Msg{Kind: api.MsgToken, Epoch: 11, Request: 22, Place: 33, Token: 77}, "000000000b 0000000016 0000000021 000000004d"},
		{api.Msg{Kind: api.MsgRow, Epoch: 11, Request: 22, Place: 33, Layer: 44, List: []int32{5}}, "000000000b 0000000016 0000000021 000000002c 0001 00000005"},
		{api.Msg{Kind: api.MsgChunk, Epoch: 11, Request: 22, Place: 33, Layer: 44, Step: 55, Part: 66, List: []int32{-1, 1 << 30}}, "000000000b 0000000016 0000000021 000000002c 0000000037 0000000042 0002 ffffffff 40000000"},
		{api.Msg{Kind: api.MsgAnswer, Epoch: 11, Request: 22, Place: 33, Token: 77}, "000000000b 0000000016 0000000021 000000004d"},
		{api.Msg{Kind: api.MsgBeat, Epoch: 11, Step: 55, Part: 66}, "000000000b 0000000037 0000000042"},
		{api.Msg{Kind: api.MsgEpoch, Epoch: 11}, "000000000b"},
		{api.Msg{Kind: api.MsgReady, Epoch: 11, Step: 55, Part: 66}, "000000000b 0000000037 0000000042"},
		{api.Msg{Kind: api.MsgDrop, Epoch: 11, Request: 22, Part: 66}, "000000000b 0000000016 0000000042"},
		{api.Msg{Kind: api.MsgSubmit, Request: 22, Token: 77, List: []int32{1, 2, math.MinInt32}}, "0000000016 000000004d 0003 00000001 00000002 80000000"},
		{api.Msg{Kind: api.MsgCancel, Request: 22}, "0000000016"},
		{api.Msg{Kind: api.MsgVerdict, Request: 22, Token: 77}, "0000000016 000000004d"},
		{api.Msg{Kind: api.MsgSay, Request: 22, Place: 33, Token: 77}, "0000000016 0000000021 000000004d"},
		{api.Msg{Kind: api.MsgDone, Request: 22, Place: 33}, "0000000016 0000000021"},
	} {
		body, err := hex.DecodeString(strings.ReplaceAll(c.body, " ", ""))
		if err != nil {
			t.Fatal(err)
		}
		want := framed(byte(c.m.Kind), body)
		if b, e := Bytes(c.m); e != api.OK || !bytes.Equal(b, want) {
			t.Errorf("Bytes(%s): %s, error %d; want %s", short(c.m), shortBytes(b), e, shortBytes(want))
		}
		holdParse(t, want, c.m)
		hold(t, c.m)
	}
	for _, m := range messages() {
		hold(t, m)
	}
}

// numbersToTry are those at the edges, right ones and others; each stands in another byte, or is right without some of its bits.
func numbersToTry() []int {
	all := []int{
		0, 1, 2, 255, 256, 65535, 65536, math.MaxInt32, 1 << 31, math.MaxUint32, 1 << 32, 0x0102030405, 0xFEDCBA9876, api.MaxNum - 2, api.MaxNum - 1,
		api.MaxNum, api.MaxNum + 1, 2*api.MaxNum - 1, 2 * api.MaxNum, 3*api.MaxNum + 5, math.MaxInt - 1, math.MaxInt,
		-1, -2, -256, math.MinInt32, -api.MaxNum + 1, -api.MaxNum, -api.MaxNum - 1, math.MinInt + 1, math.MinInt,
	}
	for bit := range 64 {
		all = append(all, 1<<bit)
	}
	return all
}

func TestP151EachNumberOfEachKind(t *testing.T) {
	for kind := 1; kind <= 13; kind++ {
		for _, letter := range order {
			means := strings.ContainsRune(told[kind].numbers, letter)
			for _, n := range numbersToTry() {
				for _, m := range []api.Msg{{Kind: kind}, full(kind), some(uint64(kind), kind)} {
					*number(&m, letter) = n
					if n == 0 || means && n > 0 && n <= api.MaxNum-1 {
						hold(t, m)
					} else {
						refuse(t, m)
					}
				}
			}
		}
	}
}

// Each set of numbers that aren't 0, of each kind: right, if all of these mean something.
func TestP151EachSetOfNumbers(t *testing.T) {
	for kind := -1; kind <= 15; kind++ {
		for set := range 1 << 7 {
			m, right := api.Msg{Kind: kind}, kind >= 1 && kind <= 13
			for i, letter := range order {
				if set>>i&1 == 1 {
					*number(&m, letter) = 1000 + i
					right = right && strings.ContainsRune(told[kind].numbers, letter)
				}
			}
			if right {
				hold(t, m)
			} else {
				refuse(t, m)
			}
		}
	}
}

func TestP151OfEachKind(t *testing.T) {
	for kind := -300; kind <= 1100; kind++ {
		if kind >= 1 && kind <= 13 {
			hold(t, api.Msg{Kind: kind})
			continue
		}
		refuse(t, api.Msg{Kind: kind})
		refuse(t, api.Msg{Kind: kind, Epoch: 1})
		refuse(t, api.Msg{Kind: kind, Request: 1, List: []int32{1}})
	}
	// These have a right kind's last bits.
	for kind := range 14 {
		for _, far := range []int{1 << 8, 1 << 16, 1 << 31, 1 << 32, 1 << 40, 1 << 62, math.MinInt} {
			refuse(t, api.Msg{Kind: far + kind})
			refuse(t, api.Msg{Kind: -far - kind})
		}
	}
	for _, kind := range []int{0, 14, 32, 255, 256, -1, -13, math.MaxInt, math.MaxInt - 1, math.MinInt, math.MinInt + 1} {
		refuse(t, api.Msg{Kind: kind})
	}
}

func TestP151ListsOfEachLength(t *testing.T) {
	for kind := 1; kind <= 13; kind++ {
		for _, base := range []api.Msg{{Kind: kind}, full(kind)} {
			for _, list := range [][]int32{nil, {}, make([]int32, 0, 9)} {
				m := base
				m.List = list
				hold(t, m)
			}
			for _, n := range []int{1, 2, 3, 127, 128, 255, 256, 257, 1000, 4094, 4095, 4096} {
				for _, list := range [][]int32{make([]int32, n), someList(uint64(n), n)} {
					m := base
					m.List = list
					if told[kind].list {
						hold(t, m)
					} else {
						refuse(t, m)
					}
				}
			}
			// Some of these have a right length's last two bytes.
			for _, n := range []int{4097, 4098, 8192, 65535, 65536, 65537, 65536 + 4096, 1 << 18, 1<<18 + 1, 1 << 20} {
				m := base
				m.List = make([]int32, n)
				refuse(t, m)
			}
		}
	}
}

func TestP151EachNumberOfAList(t *testing.T) {
	items := []int32{math.MinInt32, math.MinInt32 + 1, -0x01020304, -65537, -65536, -257, -256, -255, -2, -1, 0, 1, 2, 127, 128, 255, 256, 65535, 65536, 0x01020304, math.MaxInt32 - 1, math.MaxInt32}
	for bit := range 32 {
		items = append(items, int32(uint32(1)<<bit), ^int32(uint32(1)<<bit))
	}
	for kind := range told {
		if !told[kind].list {
			continue
		}
		for _, x := range items {
			hold(t, api.Msg{Kind: kind, List: []int32{x}})
			m := full(kind)
			m.List = []int32{7, x, x, -7}
			hold(t, m)
		}
		m := full(kind)
		m.List = items
		hold(t, m)
	}
}

// Two numbers at once, one of which isn't right, make the message not right, whatever the other one is.
func TestP151OfAnyMessages(t *testing.T) {
	next := steady(1)
	few := []int{0, 0, 0, 0, 0, 1, 5, api.MaxNum - 1, api.MaxNum, -1, math.MinInt, math.MaxInt}
	for range 40000 {
		m := api.Msg{Kind: int(next()>>20%17) - 1}
		for _, letter := range order {
			if strings.ContainsRune(told[m.Kind].numbers, letter) || next()>>20%5 == 0 {
				*number(&m, letter) = few[next()>>20%uint64(len(few))]
			}
		}
		if told[m.Kind].list || next()>>20%5 == 0 {
			m.List = someList(next(), int(next()>>20%4))
		}
		holdAny(t, m)
	}
}

func TestP151RightOfSeveral(t *testing.T) {
	if !Right() || !Right(nil...) || !Right([]api.Msg{}...) {
		t.Error("Right of none: false")
	}
	all := messages()
	if !Right(all...) {
		t.Error("Right of right ones: false")
	}
	odd := []api.Msg{{}, {Kind: 14}, {Kind: -1}, {Kind: api.MsgBeat, Request: 1}, {Kind: api.MsgToken, Epoch: -1}, {Kind: api.MsgToken, Token: api.MaxNum}, {Kind: api.MsgToken, List: []int32{0}}, {Kind: api.MsgRow, List: make([]int32, 4097)}}
	for _, m := range odd {
		for at := range all {
			if Right(slices.Insert(slices.Clone(all), at, m)...) || Right(slices.Replace(slices.Clone(all), at, at+1, m)...) {
				t.Errorf("Right of right ones, but %s at %d: true", short(m), at)
			}
		}
		if Right(append(slices.Clone(all), m)...) || Right(m) || Right(m, m) {
			t.Errorf("Right of %s behind others, alone, or twice: true", short(m))
		}
	}
	if Right(odd...) {
		t.Error("Right of some that aren't right: true")
	}
	if !Right(all[3], all[3]) {
		t.Error("Right of one that is right, twice: false")
	}
}

func TestP151ParseOfMessagesMadeWithoutThePackage(t *testing.T) {
	for _, m := range messages() {
		holdParse(t, plainBytes(m), m)
	}
	for _, n := range []int{0, 1, 255, 256, 4095, 4096} {
		m := full(api.MsgChunk)
		m.List = someList(uint64(n), n)
		holdParse(t, plainBytes(m), m)
	}
}

// The greatest number that five bytes say is the greatest that is right: no number in a body is too great.
func TestP151ParseOfTheGreatestNumbers(t *testing.T) {
	for kind := 1; kind <= 13; kind++ {
		want := api.Msg{Kind: kind}
		for _, letter := range told[kind].numbers {
			*number(&want, letter) = 1099511627775
		}
		body := bytes.Repeat([]byte{255}, 5*len(told[kind].numbers))
		if told[kind].list {
			want.List, body = []int32{-1}, append(body, 0, 1, 255, 255, 255, 255)
		}
		holdParse(t, framed(byte(kind), body), want)
	}
}

func TestP151ParseOfLayer14sErrors(t *testing.T) {
	refuseParse(t, "nil", nil, api.ErrShort)
	refuseParse(t, "empty", []byte{}, api.ErrShort)
	for _, m := range messages() {
		b := plainBytes(m)
		body := b[8 : len(b)-4]
		length, kind := uint32(len(body)), byte(m.Kind)
		for n := range b {
			refuseParse(t, "the beginning", b[:n], api.ErrShort)
		}
		refuseParse(t, "another letter", signed(unsigned("PM", 1, kind, length, body)), api.ErrMagic)
		refuseParse(t, "another letter", signed(unsigned("QL", 1, kind, length, body)), api.ErrMagic)
		refuseParse(t, "another version", signed(unsigned("PL", 0, kind, length, body)), api.ErrKind)
		refuseParse(t, "another version", signed(unsigned("PL", 2, kind, length, body)), api.ErrKind)
		refuseParse(t, "a length above all", signed(unsigned("PL", 1, kind, api.MaxBody+1, body)), api.ErrLong)
		refuseParse(t, "a length that is too great", signed(unsigned("PL", 1, kind, length+1, body)), api.ErrShort)
		refuseParse(t, "a length that is too small", signed(unsigned("PL", 1, kind, length-1, body)), api.ErrExtra)
		refuseParse(t, "a byte more", append(slices.Clone(b), 0), api.ErrExtra)
		refuseParse(t, "twice", append(slices.Clone(b), b...), api.ErrExtra)
		for i := 8; i < len(b); i++ {
			c := slices.Clone(b)
			c[i] ^= 1
			refuseParse(t, "another byte", c, api.ErrSum)
		}
	}
}

// Each set of faults at once: the first one, in the promises' order, is told.
func TestP151ParseOfSeveralFaults(t *testing.T) {
	for faults := range 1 << 8 {
		has := func(i int) bool { return faults>>i&1 == 1 }
		m := full(api.MsgSay)
		letters, version, kind, length, body := "PL", byte(1), byte(m.Kind), uint32(15), plainBody(m)
		want := api.OK
		if has(7) {
			want, kind = api.ErrForm, 77
		}
		if has(6) {
			want, length, body = api.ErrForm, 16, append(body, 0)
		}
		if has(5) {
			want = api.ErrSum
		}
		if has(4) {
			want, body = api.ErrExtra, append(body, 0)
		}
		if has(3) {
			want, body = api.ErrShort, body[:14]
		}
		if has(2) {
			want, length = api.ErrLong, api.MaxBody+1
		}
		if has(1) {
			want, version = api.ErrKind, 9
		}
		if has(0) {
			want, letters = api.ErrMagic, "LP"
		}
		b := signed(unsigned(letters, version, kind, length, body))
		if has(5) {
			b[len(b)-1] ^= 1
		}
		if want == api.OK {
			holdParse(t, b, m)
		} else {
			refuseParse(t, fmt.Sprintf("faults %08b", faults), b, want)
			refuseParse(t, "these in few bytes", b[:11], api.ErrShort)
		}
	}
}

// A body of each kind, in a frame of each kind: where another one has just as many numbers, it is read as that one.
func TestP151ParseOfFramesOfOtherKinds(t *testing.T) {
	for _, m := range messages() {
		body := plainBody(m)
		for kind := range 256 {
			b := framed(byte(kind), body)
			holdAsPlain(t, b)
			if kind < 1 || kind > 13 {
				refuseParse(t, "no kind of a message", b, api.ErrForm)
			}
		}
	}
	for kind := range 256 {
		refuseParse(t, "no body", framed(byte(kind), nil), api.ErrForm)
		for n := range 45 {
			holdAsPlain(t, framed(byte(kind), make([]byte, n)))
			holdAsPlain(t, framed(byte(kind), someBytes(uint64(kind), n)))
			holdAsPlain(t, framed(byte(kind), bytes.Repeat([]byte{255}, n)))
		}
	}
}

func TestP151ParseOfBodiesOfOtherLengths(t *testing.T) {
	for _, m := range messages() {
		body, kind := plainBody(m), byte(m.Kind)
		for n := range body {
			refuseParse(t, "the beginning", framed(kind, body[:n]), api.ErrForm)
			refuseParse(t, "the end", framed(kind, body[n+1:]), api.ErrForm)
		}
		for _, more := range [][]byte{{0}, {1}, {255}, make([]byte, 2), make([]byte, 4), make([]byte, 5), someBytes(3, 7), body} {
			refuseParse(t, "more", framed(kind, append(slices.Clone(body), more...)), api.ErrForm)
		}
	}
	for kind := 1; kind <= 13; kind++ {
		refuseParse(t, "the longest body", framed(byte(kind), make([]byte, api.MaxBody)), api.ErrForm)
		refuseParse(t, "the longest body", framed(byte(kind), bytes.Repeat([]byte{255}, api.MaxBody)), api.ErrForm)
	}
}

// A List, even of no number, isn't told of a kind that has none; of one that may have it, how many it has is.
func TestP151ParseOfListsWhereNoneIsTold(t *testing.T) {
	for kind := 1; kind <= 13; kind++ {
		m := full(kind)
		m.List = nil
		body := plainBody(m)
		if told[kind].list {
			refuseParse(t, "no count", framed(byte(kind), body[:len(body)-2]), api.ErrForm)
			holdParse(t, framed(byte(kind), body), m)
			continue
		}
		for _, list := range [][]int32{nil, {0}, {1, 2}} {
			refuseParse(t, "a List", framed(byte(kind), append(slices.Clone(body), listed(len(list), list)...)), api.ErrForm)
		}
	}
}

func TestP151ParseOfOtherCounts(t *testing.T) {
	for kind := range told {
		if !told[kind].list {
			continue
		}
		head := make([]byte, 5*len(told[kind].numbers))
		for _, n := range []int{0, 1, 2, 3, 255, 256, 257, 4095, 4096} {
			list := someList(uint64(n), n)
			for _, says := range []int{0, 1, 2, 3, n - 2, n - 1, n, n + 1, n + 2, n + 256, n << 8, n >> 8, 4095, 4096, 4097, 65535} {
				if says < 0 || says > 65535 {
					continue
				}
				b := framed(byte(kind), append(slices.Clone(head), listed(says, list)...))
				if says == n {
					holdParse(t, b, api.Msg{Kind: kind, List: list})
				} else {
					refuseParse(t, fmt.Sprintf("it says %d of %d", says, n), b, api.ErrForm)
				}
			}
		}
		// All these are there, but too many.
		for _, n := range []int{4097, 4098, 5000, 8192, 32768, 65535} {
			for _, list := range [][]int32{make([]int32, n), someList(uint64(n), n)} {
				refuseParse(t, "too many", framed(byte(kind), append(slices.Clone(head), listed(n, list)...)), api.ErrForm)
			}
		}
	}
}

func TestP151ParseOfAnyBytes(t *testing.T) {
	next := steady(2)
	for n := range 3000 {
		holdAsPlain(t, someBytes(uint64(n), n%100))
		holdAsPlain(t, framed(byte(next()>>20%15), someBytes(uint64(n), int(next()>>20%45))))
		holdAsPlain(t, append([]byte("PL\x01"), someBytes(uint64(n), n%60)...))
	}
	// Messages of which a byte of the body, or two, or the kind, is another one, signed anew.
	for _, m := range messages() {
		b := plainBytes(m)
		b = b[:len(b)-4]
		for i := 3; i < len(b); i++ {
			if i >= 4 && i < 8 {
				continue
			}
			for _, x := range []byte{1, 2, 4, 128, 255} {
				c := slices.Clone(b)
				c[i] ^= x
				holdAsPlain(t, signed(c))
				c[8+int(next()>>20%uint64(len(b)-8))] ^= x
				holdAsPlain(t, signed(c))
			}
		}
	}
}

func TestP151SameOfOneAndOfOthers(t *testing.T) {
	all := messages()
	for i, a := range all {
		for k, b := range all {
			want := alike(a, b)
			if i == k && !want {
				t.Errorf("%s isn't like itself", short(a))
			}
			holdSame(t, a, b, want)
		}
	}
}

// odd are messages of which most aren't right; whether these are the same can be asked, too.
func odd() []api.Msg {
	all := messages()
	for _, n := range []int{-1, 0, 1, math.MinInt, math.MaxInt, api.MaxNum} {
		all = append(all, api.Msg{Kind: n}, api.Msg{Kind: n, Epoch: n, Request: n, Place: n, Layer: n, Step: n, Part: n, Token: n, List: someList(1, 5)})
	}
	return append(all, api.Msg{List: make([]int32, 4097)}, api.Msg{Kind: api.MsgBeat, List: make([]int32, 70000)})
}

func TestP151SameOfOnesThatDifferInOneNumber(t *testing.T) {
	for _, m := range odd() {
		holdSame(t, m, m, true)
		for _, by := range []int{1, -1, 1 << 8, 1 << 16, 1 << 31, 1 << 32, 1 << 40, math.MinInt} {
			other := m
			other.Kind += by
			holdSame(t, m, other, false)
			for _, letter := range order {
				other := m
				*number(&other, letter) += by
				holdSame(t, m, other, false)
			}
		}
		// Two numbers that are turned about, or that come to the same together.
		for i, one := range order {
			for _, two := range order[:i] {
				other := m
				*number(&other, one), *number(&other, two) = *number(&m, two), *number(&m, one)
				holdSame(t, m, other, alike(m, other))
				other = m
				*number(&other, one)++
				*number(&other, two)--
				holdSame(t, m, other, false)
			}
		}
	}
}

func TestP151SameOfListsThatDiffer(t *testing.T) {
	for _, m := range odd() {
		other := m
		other.List = slices.Clone(m.List)
		holdSame(t, m, other, true)
		for _, more := range []int32{0, 1, -1} {
			other.List = append(slices.Clone(m.List), more)
			holdSame(t, m, other, false)
		}
		for i := range m.List {
			if i > 20 && i < len(m.List)-3 {
				continue
			}
			for _, by := range []int32{1, -1, 1 << 8, math.MinInt32} {
				other.List = slices.Clone(m.List)
				other.List[i] += by
				holdSame(t, m, other, false)
			}
			other.List = slices.Delete(slices.Clone(m.List), i, i+1)
			holdSame(t, m, other, false)
		}
		if len(m.List) > 0 {
			other.List = m.List[:len(m.List)-1]
			holdSame(t, m, other, false)
			other.List = nil
			holdSame(t, m, other, false)
		}
	}
	a := api.Msg{Kind: api.MsgRow, List: []int32{1, 2}}
	holdSame(t, a, api.Msg{Kind: api.MsgRow, List: []int32{2, 1}}, false)
	// Nil and empty are one.
	holdSame(t, api.Msg{Kind: api.MsgRow}, api.Msg{Kind: api.MsgRow, List: []int32{}}, true)
	holdSame(t, api.Msg{}, api.Msg{List: make([]int32, 0, 5)}, true)
	// Only what the List has counts, not its spare room.
	holdSame(t, api.Msg{List: []int32{1, 2}[:1]}, api.Msg{List: []int32{1, 3}[:1]}, true)
}

func TestP151CloneIsTheSame(t *testing.T) {
	for _, m := range odd() {
		if c := Clone(m); !alike(c, m) || !Same(c, m) {
			t.Errorf("Clone(%s): %s", short(m), short(c))
		}
	}
	for _, list := range [][]int32{nil, {}} {
		if c := Clone(api.Msg{Kind: api.MsgRow, List: list}); c.Kind != api.MsgRow || len(c.List) != 0 {
			t.Errorf("Clone of a message of no List: %s", short(c))
		}
	}
}

func TestP152ThereAndBack(t *testing.T) {
	for seed := range 6000 {
		m := some(uint64(seed), 1+seed%13)
		b, e := Bytes(m)
		if e != api.OK {
			t.Fatalf("Bytes(%s): error %d", short(m), e)
		}
		back, e := Parse(b)
		if e != api.OK || !alike(back, m) || !Same(back, m) {
			t.Errorf("Parse of Bytes(%s): %s, error %d", short(m), short(back), e)
		}
		again, e := Bytes(back)
		if e != api.OK || !bytes.Equal(again, b) {
			t.Errorf("Bytes of Parse(%s): %s, error %d", shortBytes(b), shortBytes(again), e)
		}
	}
}

// Whatever the bytes of a body of a right length, they say a message, and this has just these bytes.
func TestP152BytesOfParseOfAnyBodies(t *testing.T) {
	next := steady(4)
	for seed := range 4000 {
		kind := 1 + seed%13
		body := someBytes(uint64(seed), 5*len(told[kind].numbers))
		if told[kind].list {
			n := int(next() >> 20 % 12)
			body = append(body, listed(n, someList(next(), n))...)
		}
		b := framed(byte(kind), body)
		m, e := Parse(b)
		if e != api.OK || m.Kind != kind || !Right(m) {
			t.Fatalf("Parse(%s): %s, error %d", shortBytes(b), short(m), e)
		}
		if again, e := Bytes(m); e != api.OK || !bytes.Equal(again, b) {
			t.Errorf("Bytes of Parse(%s): %s, error %d", shortBytes(b), shortBytes(again), e)
		}
	}
}

// near are right messages that are easily taken for one another.
func near() []api.Msg {
	all := messages()
	for kind := 1; kind <= 13; kind++ {
		for _, letter := range told[kind].numbers {
			for _, n := range numbersToTry() {
				m := api.Msg{Kind: kind}
				*number(&m, letter) = n
				if plainRight(m) {
					all = append(all, m)
				}
			}
		}
		if !told[kind].list {
			continue
		}
		for _, list := range [][]int32{{0}, {0, 0}, {0, 0, 0}, {1}, {0, 1}, {1, 0}, {256}, {0, 256}, {-1}, {-1, -1}, {-1, 0}, {0, -1}, {math.MinInt32}, {math.MaxInt32}, {1, 2}, {2, 1}, make([]int32, 255), make([]int32, 256), make([]int32, 4096)} {
			all = append(all, api.Msg{Kind: kind, List: list}, api.Msg{Kind: kind, Request: len(list), List: list}, api.Msg{Kind: kind, Request: 1, List: list})
		}
	}
	return all
}

func TestP152NoTwoMessagesHaveTheSameBytes(t *testing.T) {
	whose := map[string]api.Msg{}
	for _, m := range near() {
		b, e := Bytes(m)
		if e != api.OK {
			t.Fatalf("Bytes(%s): error %d", short(m), e)
		}
		if other, ok := whose[string(b)]; ok && !alike(other, m) {
			t.Errorf("%s and %s: both %s", short(other), short(m), shortBytes(b))
		}
		whose[string(b)] = m
	}
}

// roomy is a message whose List has spare room behind it, and all of that List.
func roomy(m api.Msg) ([]int32, api.Msg) {
	whole := append(slices.Clone(m.List), 11, -22, 33, -44, 55)
	m.List = whole[:len(m.List)]
	return whole, m
}

// spoil changes all numbers, their spare room with them.
func spoil[N byte | int32](ns []N) {
	ns = ns[:cap(ns)]
	for i := range ns {
		ns[i] ^= 0x55
	}
}

func TestP152BytesAreNewMemory(t *testing.T) {
	for _, m := range near() {
		want := plainBytes(m)
		whole, r := roomy(m)
		kept := slices.Clone(whole)
		first, _ := Bytes(r)
		second, _ := Bytes(r)
		spoil(second)
		if !slices.Equal(whole, kept) || !bytes.Equal(first, want) {
			t.Errorf("Bytes(%s): a change of an answer changed another, or what was handed in", short(m))
		}
		hold(t, r)
		spoil(whole)
		if !bytes.Equal(first, want) {
			t.Errorf("Bytes(%s): a change of what was handed in changed an answer", short(m))
		}
	}
}

func TestP152ParsedMessagesAreNewMemory(t *testing.T) {
	for _, m := range near() {
		whole := append(plainBytes(m), 11, 22, 33, 44, 55)
		b, kept := whole[:len(whole)-5], slices.Clone(whole)
		first, _ := Parse(b)
		second, _ := Parse(b)
		spoil(second.List)
		if !bytes.Equal(whole, kept) || !alike(first, m) {
			t.Errorf("Parse of %s: a change of an answer changed another, or what was handed in", short(m))
		}
		holdParse(t, b, m)
		spoil(whole)
		if !alike(first, m) {
			t.Errorf("Parse of %s: a change of what was handed in changed an answer", short(m))
		}
	}
}

func TestP152ClonesAreNewMemory(t *testing.T) {
	for _, m := range append(near(), odd()...) {
		whole, r := roomy(m)
		kept := slices.Clone(whole)
		first, second := Clone(r), Clone(r)
		third := Clone(first)
		spoil(second.List)
		spoil(third.List)
		if !slices.Equal(whole, kept) || !alike(first, m) {
			t.Errorf("Clone(%s): a change of an answer changed another, or what was handed in", short(m))
		}
		spoil(whole)
		if !alike(first, m) {
			t.Errorf("Clone(%s): a change of what was handed in changed an answer", short(m))
		}
	}
	m := api.Msg{Kind: api.MsgRow, List: []int32{1}}
	c := Clone(m)
	c.List[0], c.Place = 2, 7
	if m.List[0] != 1 || m.Place != 0 {
		t.Errorf("Clone: %s", short(m))
	}
}

func TestP152WhatIsAskedOfStays(t *testing.T) {
	var ms, kept []api.Msg
	for _, m := range append(near(), odd()...) {
		whole, r := roomy(m)
		ms = append(ms, r)
		kept = append(kept, api.Msg{Kind: m.Kind, Epoch: m.Epoch, Request: m.Request, Place: m.Place, Layer: m.Layer, Step: m.Step, Part: m.Part, Token: m.Token, List: slices.Clone(whole)})
	}
	Right(ms...)
	for i, m := range ms {
		Right(m)
		Bytes(m)
		Same(m, ms[len(ms)-1-i])
	}
	for i, m := range ms {
		m.List = m.List[:len(kept[i].List)]
		if !alike(m, kept[i]) {
			t.Errorf("%s was handed in, and is %s", short(kept[i]), short(m))
		}
	}
}

func TestP152BytesThatAreRefusedStay(t *testing.T) {
	b := plainBytes(full(api.MsgChunk))
	body := b[8 : len(b)-4]
	for _, c := range [][]byte{b[:5], b[:20], append(slices.Clone(b), 1), signed(b), someBytes(22, 40), framed(77, body), framed(3, body[:11]), framed(3, append(slices.Clone(body), 1)), framed(6, nil), framed(9, listed(4097, make([]int32, 4097)))} {
		whole := append(slices.Clone(c), 11, 22, 33)
		kept := slices.Clone(whole)
		if _, e := Parse(whole[:len(c)]); e == api.OK {
			t.Errorf("Parse(%s): OK", shortBytes(c))
		}
		if !bytes.Equal(whole, kept) {
			t.Errorf("Parse(%s): what was handed in is another", shortBytes(c))
		}
	}
}

// What one call answers hangs on no call ahead of it.
func TestP152NothingIsKept(t *testing.T) {
	m := full(api.MsgChunk)
	for range 3 {
		hold(t, m)
		refuse(t, api.Msg{Kind: api.MsgChunk, Token: 1})
		hold(t, api.Msg{Kind: api.MsgChunk})
		refuseParse(t, "nil", nil, api.ErrShort)
		refuseParse(t, "half a body", framed(3, plainBody(m)[:17]), api.ErrForm)
		holdParse(t, plainBytes(m), m)
		refuseParse(t, "no kind", framed(0, nil), api.ErrForm)
		holdParse(t, framed(6, make([]byte, 5)), api.Msg{Kind: api.MsgEpoch})
		holdSame(t, m, Clone(m), true)
	}
}
