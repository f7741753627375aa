package octet

import (
	"bytes"
	"math"
	"testing"

	"bargate/api"
)

// edgeInts: the numbers at which sizes and places go wrong.
var edgeInts = []int{math.MinInt, math.MinInt + 1, -65, -9, -8, -1, 0, 1, 2, 3, 7, 8, 9, 31, 32, 63, 64, 65, math.MaxInt - 8, math.MaxInt - 1, math.MaxInt}

var edgeWords = []uint64{0, 1, 2, 7, 8, 63, 64, 65, 255, 256, 1 << 31, 1 << 32, 1 << 62, 1 << 63, 1<<63 + 1, math.MaxUint64 - 1, math.MaxUint64}

// roomy: bytes with other bytes ahead of them, and with spare room behind.
func roomy() (backing, b []byte) {
	backing = []byte{0xA0, 0xA1, 1, 2, 3, 4, 5, 0xB0, 0xB1, 0xB2}
	return backing, backing[2:7]
}

func scribble(b []byte) {
	b = b[:cap(b)]
	for i := range b {
		b[i] ^= 0xFF
	}
}

func TestPut(t *testing.T) {
	for _, x := range []struct {
		n    uint64
		size int
		want []byte
	}{
		{2, 2, []byte{0, 2}},
		{0, 1, []byte{0}},
		{0, 8, make([]byte, 8)},
		{255, 1, []byte{255}},
		{0x010203, 3, []byte{1, 2, 3}},
		{0x0102, 5, []byte{0, 0, 0, 1, 2}},
		{0x0102030405060708, 8, []byte{1, 2, 3, 4, 5, 6, 7, 8}},
		{math.MaxUint64, 8, bytes.Repeat([]byte{255}, 8)},
	} {
		if b, e := Put(x.n, x.size); e != api.OK || !bytes.Equal(b, x.want) {
			t.Errorf("Put(%#x, %d) = %x, %d, want %x", x.n, x.size, b, e, x.want)
		}
	}
}

func TestPutRoom(t *testing.T) {
	for size := 1; size < MaxBytes; size++ {
		most := uint64(1)<<(8*size) - 1
		if b, e := Put(most, size); e != api.OK || !bytes.Equal(b, bytes.Repeat([]byte{255}, size)) {
			t.Errorf("Put(%#x, %d) = %x, %d", most, size, b, e)
		}
		if b, e := Put(most+1, size); e != api.ErrRange || len(b) != 0 {
			t.Errorf("Put(%#x, %d) = %x, %d, want ErrRange", most+1, size, b, e)
		}
	}
	for _, size := range edgeInts {
		if size >= 1 && size <= MaxBytes {
			continue
		}
		if b, e := Put(0, size); e != api.ErrRange || len(b) != 0 {
			t.Errorf("Put(0, %d) = %x, %d, want ErrRange", size, b, e)
		}
	}
}

func TestGet(t *testing.T) {
	b := []byte{1, 2, 3, 4, 5, 6, 7, 8, 0xFF}
	for _, x := range []struct {
		at, size int
		want     uint64
		err      api.Errno
	}{
		{0, 1, 1, api.OK},
		{0, 8, 0x0102030405060708, api.OK},
		{1, 8, 0x02030405060708FF, api.OK},
		{7, 2, 0x08FF, api.OK},
		{8, 1, 0xFF, api.OK},
		{2, 8, 0, api.ErrShort},
		{8, 2, 0, api.ErrShort},
		{9, 1, 0, api.ErrShort},
		{10, 1, 0, api.ErrShort},
		{math.MaxInt, 8, 0, api.ErrShort},
		{math.MaxInt - 7, 8, 0, api.ErrShort},
		{-1, 1, 0, api.ErrRange},
		{math.MinInt, 1, 0, api.ErrRange},
		{0, 0, 0, api.ErrRange},
		{0, 9, 0, api.ErrRange},
		{0, -1, 0, api.ErrRange},
		{0, math.MaxInt, 0, api.ErrRange},
		{0, math.MinInt, 0, api.ErrRange},
		{9, 0, 0, api.ErrRange},
		{100, 9, 0, api.ErrRange}, // ErrRange is named ahead of ErrShort
	} {
		if n, e := Get(b, x.at, x.size); n != x.want || e != x.err {
			t.Errorf("Get(b, %d, %d) = %#x, %d, want %#x, %d", x.at, x.size, n, e, x.want, x.err)
		}
	}
	if n, e := Get(nil, 0, 1); n != 0 || e != api.ErrShort {
		t.Errorf("Get of none = %d, %d, want ErrShort", n, e)
	}
	if n, e := Get(nil, -1, 1); n != 0 || e != api.ErrRange {
		t.Errorf("Get of none at -1 = %d, %d, want ErrRange", n, e)
	}
}

func TestGetStopsAtTheLength(t *testing.T) {
	_, b := roomy()
	if n, e := Get(b, 4, 2); n != 0 || e != api.ErrShort {
		t.Errorf("Get into the spare room = %#x, %d, want ErrShort", n, e)
	}
}

func TestPutThenGet(t *testing.T) {
	for _, n := range edgeWords {
		for size := 1; size <= MaxBytes; size++ {
			b, e := Put(n, size)
			if e != api.OK {
				continue
			}
			if back, e := Get(b, 0, size); back != n || e != api.OK || len(b) != size {
				t.Errorf("Get of Put(%#x, %d) = %#x, %d", n, size, back, e)
			}
		}
	}
}

func TestTurn(t *testing.T) {
	for _, x := range []struct{ in, want []byte }{
		{nil, nil},
		{[]byte{}, nil},
		{[]byte{7}, []byte{7}},
		{[]byte{1, 2}, []byte{2, 1}},
		{[]byte{1, 2, 3}, []byte{3, 2, 1}},
	} {
		if got := Turn(x.in); !bytes.Equal(got, x.want) {
			t.Errorf("Turn(%x) = %x, want %x", x.in, got, x.want)
		}
	}
}

func TestJoin(t *testing.T) {
	for _, x := range []struct {
		in   [][]byte
		want []byte
	}{
		{nil, nil},
		{[][]byte{nil}, nil},
		{[][]byte{nil, {}, nil}, nil},
		{[][]byte{{1}}, []byte{1}},
		{[][]byte{{1, 2}, nil, {3}, {}, {4, 5}}, []byte{1, 2, 3, 4, 5}},
	} {
		if got := Join(x.in...); !bytes.Equal(got, x.want) {
			t.Errorf("Join(%x) = %x, want %x", x.in, got, x.want)
		}
	}
}

func TestBit(t *testing.T) {
	for at := range 64 {
		for other := range 64 {
			if got := Bit(1<<at, other); got != (at == other) {
				t.Errorf("Bit(1<<%d, %d) = %v", at, other, got)
			}
		}
	}
	for _, at := range edgeInts {
		if want := at >= 0 && at <= 63; Bit(math.MaxUint64, at) != want {
			t.Errorf("Bit of all ones at %d is not %v", at, want)
		}
	}
}

func TestBits(t *testing.T) {
	for _, x := range []struct {
		n        uint64
		from, to int
		want     uint64
	}{
		{0xABCD, 4, 12, 0xBC},
		{0xABCD, 0, 4, 0xD},
		{0xABCD, 12, 64, 0xA},
		{math.MaxUint64, 0, 64, math.MaxUint64},
		{math.MaxUint64, 1, 64, math.MaxUint64 >> 1},
		{math.MaxUint64, 63, 64, 1},
		{math.MaxUint64, 0, 63, math.MaxUint64 >> 1},
		{math.MaxUint64, 0, 1, 1},
		{math.MaxUint64, -1, 4, 0},
		{math.MaxUint64, 0, 65, 0},
		{math.MaxUint64, 5, 5, 0},
		{math.MaxUint64, 6, 5, 0},
		{math.MaxUint64, 64, 64, 0},
		{math.MaxUint64, 64, 65, 0},
		{math.MaxUint64, 0, 0, 0},
		{math.MaxUint64, 0, -1, 0},
		{math.MaxUint64, math.MinInt, math.MaxInt, 0},
		{math.MaxUint64, math.MinInt, 64, 0},
		{math.MaxUint64, math.MaxInt, math.MinInt, 0},
	} {
		if got := Bits(x.n, x.from, x.to); got != x.want {
			t.Errorf("Bits(%#x, %d, %d) = %#x, want %#x", x.n, x.from, x.to, got, x.want)
		}
	}
}

func TestBitsAreBits(t *testing.T) {
	const n = 0xFEDCBA9876543210
	for from := range 64 {
		for to := from + 1; to <= 64; to++ {
			var want uint64
			for at := to - 1; at >= from; at-- {
				want *= 2
				if Bit(n, at) {
					want++
				}
			}
			if got := Bits(n, from, to); got != want {
				t.Errorf("Bits(n, %d, %d) = %#x, want %#x", from, to, got, want)
			}
		}
	}
}

func TestPack(t *testing.T) {
	type pair = [2]uint64
	for _, x := range []struct {
		in   []pair
		want uint64
		err  api.Errno
	}{
		{nil, 0, api.OK},
		{[]pair{{3, 2}, {0, 1}, {5, 5}}, 0xC5, api.OK},
		{[]pair{{1, 1}}, 1, api.OK},
		{[]pair{{0, 0}}, 0, api.OK},
		{[]pair{{1, 0}}, 0, api.ErrRange},
		{[]pair{{0, 0}, {7, 3}, {0, 0}}, 7, api.OK},
		{[]pair{{math.MaxUint64, 64}}, math.MaxUint64, api.OK},
		{[]pair{{0, 0}, {math.MaxUint64, 64}, {0, 0}}, math.MaxUint64, api.OK},
		{[]pair{{0xAB, 32}, {0xCD, 32}}, 0xAB000000CD, api.OK},
		{[]pair{{1, 1}, {0, 63}}, 1 << 63, api.OK},
		{[]pair{{4, 2}}, 0, api.ErrRange},
		{[]pair{{3, 2}, {2, 1}}, 0, api.ErrRange},
		{[]pair{{1 << 63, 63}}, 0, api.ErrRange},
		{[]pair{{0, 65}}, 0, api.ErrRange},
		{[]pair{{0, 64}, {0, 1}}, 0, api.ErrRange},
		{[]pair{{4, 60}, {0, 5}}, 0, api.ErrRange},
		{[]pair{{0, 1 << 63}, {0, 1 << 63}}, 0, api.ErrRange}, // the sum of the sizes wraps round to 0
		{[]pair{{0, 1}, {0, math.MaxUint64}}, 0, api.ErrRange},
		{[]pair{{0, math.MaxUint64}, {0, 1}}, 0, api.ErrRange},
		{[]pair{{0, 1<<32 + 8}}, 0, api.ErrRange},
	} {
		if n, e := Pack(x.in...); n != x.want || e != x.err {
			t.Errorf("Pack(%v) = %#x, %d, want %#x, %d", x.in, n, e, x.want, x.err)
		}
	}
}

func TestReader(t *testing.T) {
	r := Read([]byte{1, 2, 3, 4, 5, 6, 7, 8, 9, 10, 11, 12})
	if r.Left() != 12 || r.Err() != api.OK {
		t.Errorf("a new reader has %d left, error %d", r.Left(), r.Err())
	}
	if n := r.Number(2); n != 0x0102 || r.Left() != 10 {
		t.Errorf("Number(2) = %#x, %d left", n, r.Left())
	}
	if b := r.Take(1); !bytes.Equal(b, []byte{3}) || r.Left() != 9 {
		t.Errorf("Take(1) = %x, %d left", b, r.Left())
	}
	if b := r.Take(0); len(b) != 0 || r.Left() != 9 || r.Err() != api.OK {
		t.Errorf("Take(0) = %x, %d left, error %d", b, r.Left(), r.Err())
	}
	if n := r.Number(8); n != 0x0405060708090A0B || r.Left() != 1 {
		t.Errorf("Number(8) = %#x, %d left", n, r.Left())
	}
	if b := r.Take(1); !bytes.Equal(b, []byte{12}) || r.Left() != 0 || r.Err() != api.OK {
		t.Errorf("Take of the last = %x, %d left, error %d", b, r.Left(), r.Err())
	}
	if b := r.Take(0); len(b) != 0 || r.Err() != api.OK {
		t.Errorf("Take(0) at the end = %x, error %d", b, r.Err())
	}
}

func TestReaderErrors(t *testing.T) {
	for _, x := range []struct {
		name string
		call func(r *Reader)
		want api.Errno
	}{
		{"Number(0)", func(r *Reader) { r.Number(0) }, api.ErrRange},
		{"Number(-1)", func(r *Reader) { r.Number(-1) }, api.ErrRange},
		{"Number(9)", func(r *Reader) { r.Number(9) }, api.ErrRange},
		{"Number(4)", func(r *Reader) { r.Number(4) }, api.ErrShort},
		{"Number(MaxInt)", func(r *Reader) { r.Number(math.MaxInt) }, api.ErrRange},
		{"Take(-1)", func(r *Reader) { r.Take(-1) }, api.ErrRange},
		{"Take(MinInt)", func(r *Reader) { r.Take(math.MinInt) }, api.ErrRange},
		{"Take(4)", func(r *Reader) { r.Take(4) }, api.ErrShort},
		{"Take(MaxInt)", func(r *Reader) { r.Take(math.MaxInt) }, api.ErrShort},
	} {
		r := Read([]byte{9, 1, 2, 3})
		r.Number(1)
		x.call(r)
		if r.Err() != x.want || r.Left() != 3 {
			t.Errorf("%s: error %d, %d left, want %d, 3", x.name, r.Err(), r.Left(), x.want)
		}
		// Neither what would be right nor another error changes anything any more.
		for range 2 {
			if n := r.Number(1); n != 0 {
				t.Errorf("%s, then Number(1) = %d", x.name, n)
			}
			if b := r.Take(1); len(b) != 0 {
				t.Errorf("%s, then Take(1) = %x", x.name, b)
			}
			r.Number(9)
			r.Number(8)
			r.Take(-1)
			r.Take(100)
		}
		if r.Err() != x.want || r.Left() != 3 {
			t.Errorf("%s, then more: error %d, %d left, want %d, 3", x.name, r.Err(), r.Left(), x.want)
		}
	}
}

func TestReaderErrorBesideResults(t *testing.T) {
	if n := Read([]byte{1, 2, 3}).Number(4); n != 0 {
		t.Errorf("Number beyond = %d", n)
	}
	if b := Read([]byte{1, 2, 3}).Take(4); len(b) != 0 {
		t.Errorf("Take beyond = %x", b)
	}
	r := Read(nil)
	if r.Left() != 0 || r.Err() != api.OK || r.Number(1) != 0 || r.Err() != api.ErrShort {
		t.Error("a reader of none")
	}
}

func TestReaderStopsAtTheLength(t *testing.T) {
	_, b := roomy()
	r := Read(b)
	if got := r.Take(6); len(got) != 0 || r.Err() != api.ErrShort {
		t.Errorf("Take into the spare room = %x, %d", got, r.Err())
	}
	r = Read(b)
	if n := r.Number(6); n != 0 || r.Err() != api.ErrShort {
		t.Errorf("Number of the spare room = %x, %d", n, r.Err())
	}
}

// TestNothingPanics: P1; a panic ends the test.
func TestNothingPanics(t *testing.T) {
	for _, b := range [][]byte{nil, {}, {1}, make([]byte, 8), make([]byte, 100)} {
		for _, at := range edgeInts {
			for _, size := range edgeInts {
				Get(b, at, size)
				r := Read(b)
				r.Number(at)
				r.Take(size)
				r = Read(b)
				r.Take(at)
				r.Number(size)
				r.Left()
				r.Err()
			}
		}
		Turn(b)
		Join(b, b, nil)
	}
	for _, n := range edgeWords {
		for _, at := range edgeInts {
			Put(n, at)
			Bit(n, at)
			for _, to := range edgeInts {
				Bits(n, at, to)
			}
		}
		for _, size := range edgeWords {
			Pack([2]uint64{n, size})
			Pack([2]uint64{0, size}, [2]uint64{0, n}, [2]uint64{n, size})
		}
	}
	Turn(nil)
	Join()
	Pack()
}

// TestAnswersAreNewMemory: rule 4: what is written over an answer, its spare room too, isn't seen in what was handed in, nor the other way.
func TestAnswersAreNewMemory(t *testing.T) {
	for name, call := range map[string]func(b []byte) []byte{
		"Turn":         Turn,
		"Join":         func(b []byte) []byte { return Join(b) },
		"Join behind":  func(b []byte) []byte { return Join(nil, b, b[:0]) },
		"Take":         func(b []byte) []byte { return Read(b).Take(5) },
		"Take of none": func(b []byte) []byte { return Read(b).Take(0) },
		"Turn of none": func(b []byte) []byte { return Turn(b[:0]) },
		"Join of none": func(b []byte) []byte { return Join(b[:0]) },
	} {
		backing, b := roomy()
		before := bytes.Clone(backing)
		got, twin := call(b), call(b)
		if !bytes.Equal(backing, before) {
			t.Errorf("%s changed what was handed in: %x", name, backing)
		}
		want := bytes.Clone(got)
		scribble(twin)
		if !bytes.Equal(backing, before) || !bytes.Equal(got, want) {
			t.Errorf("%s: an answer shares memory with its argument or another answer", name)
		}
		scribble(backing)
		if !bytes.Equal(got, want) {
			t.Errorf("%s: the answer changed with the argument", name)
		}
	}
}

func TestJoinLeavesTheListOfPieces(t *testing.T) {
	pieces := [][]byte{{1}, nil, {2, 3}}
	Join(pieces...)
	if len(pieces) != 3 || string(pieces[0]) != "\x01" || pieces[1] != nil || string(pieces[2]) != "\x02\x03" {
		t.Errorf("Join changed its pieces: %x", pieces)
	}
	pairs := [][2]uint64{{3, 2}, {1, 1}}
	Pack(pairs...)
	if pairs[0] != [2]uint64{3, 2} || pairs[1] != [2]uint64{1, 1} {
		t.Errorf("Pack changed its pairs: %v", pairs)
	}
}

func TestPutAnswersNewMemoryEachTime(t *testing.T) {
	first, _ := Put(0x0102, 2)
	second, _ := Put(0x0102, 2)
	scribble(first)
	if !bytes.Equal(second, []byte{1, 2}) {
		t.Errorf("two answers of Put share memory: %x", second)
	}
}

func TestReadersAreApart(t *testing.T) {
	backing, b := roomy()
	before := bytes.Clone(backing)
	one, other := Read(b), Read(b)
	scribble(one.Take(2))
	if n := one.Number(1); n != 3 {
		t.Errorf("what was taken is written over, then Number(1) = %d, want 3", n)
	}
	one.Take(-1)
	if other.Left() != 5 || other.Err() != api.OK || other.Number(5) != 0x0102030405 {
		t.Error("one reader moved another one")
	}
	if !bytes.Equal(backing, before) {
		t.Errorf("the reader changed its bytes: %x", backing)
	}
}
