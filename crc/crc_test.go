package crc

import (
	"bytes"
	"hash/crc32"
	"testing"

	"bargate/api"
)

// slowSum: the sum as the document tells it, bit by bit, with no table: a second way to the same answer.
func slowSum(b []byte) uint32 {
	var bits []int
	for _, x := range b {
		for i := range 8 {
			bits = append(bits, int(x>>i&1))
		}
	}
	bits = append(bits, make([]int, 32)...)
	for i := range 32 {
		bits[i] ^= 1
	}
	powers := []int{32, 26, 23, 22, 16, 12, 11, 10, 8, 7, 5, 4, 2, 1, 0}
	for at := 0; at+32 < len(bits); at++ {
		if bits[at] == 0 {
			continue
		}
		for _, p := range powers {
			bits[at+32-p] ^= 1
		}
	}
	var sum uint32
	for i, bit := range bits[len(bits)-32:] {
		sum |= uint32(bit^1) << i
	}
	return sum
}

// samples: bytes of many lengths without a rule that a table could hide behind.
func samples() [][]byte {
	out := [][]byte{nil, {}, {0}, {255}, {1}, {128}, make([]byte, 3), make([]byte, 4), make([]byte, 64), bytes.Repeat([]byte{255}, 60), []byte("123456789")}
	for i := range 256 {
		out = append(out, []byte{byte(i)})
	}
	seed := uint32(1)
	for size := range 80 {
		b := make([]byte, size)
		for i := range b {
			seed = seed*1664525 + 1013904223
			b[i] = byte(seed >> 24)
		}
		out = append(out, b)
	}
	return out
}

func TestSumOfTheExample(t *testing.T) {
	if got := Sum([]byte("123456789")); got != 0xCBF43926 {
		t.Errorf("Sum of 123456789 = %X, want CBF43926", got)
	}
}

func TestSumIsTheDivision(t *testing.T) {
	for _, b := range samples() {
		got := Sum(b)
		if want := slowSum(b); got != want {
			t.Errorf("Sum(%x) = %08X, want %08X by division", b, got, want)
		}
		if want := crc32.ChecksumIEEE(b); got != want {
			t.Errorf("Sum(%x) = %08X, want %08X by the library", b, got, want)
		}
	}
}

func TestSumOfNone(t *testing.T) {
	if Sum() != 0 || Sum(nil) != 0 || Sum(nil, []byte{}, nil) != 0 {
		t.Errorf("Sum of none = %X, %X", Sum(), Sum(nil))
	}
}

func TestSumOfPieces(t *testing.T) {
	b := []byte("123456789")
	for i := range len(b) + 1 {
		for j := i; j <= len(b); j++ {
			if got := Sum(b[:i], b[i:j], nil, b[j:]); got != 0xCBF43926 {
				t.Errorf("Sum of pieces at %d and %d = %X", i, j, got)
			}
		}
	}
	if Sum([]byte("ab"), []byte("c")) == Sum([]byte("c"), []byte("ab")) {
		t.Error("Sum doesn't tell the order of its pieces")
	}
}

func TestSeal(t *testing.T) {
	if got, want := Seal([]byte("123456789")), []byte("123456789\x26\x39\xF4\xCB"); !bytes.Equal(got, want) {
		t.Errorf("Seal = %x, want %x", got, want)
	}
	if got := Seal(nil); !bytes.Equal(got, make([]byte, Size)) {
		t.Errorf("Seal of none = %x, want four noughts", got)
	}
}

func TestOpenOfWhatIsSealed(t *testing.T) {
	for _, b := range samples() {
		if got, e := Open(Seal(b)); e != api.OK || !bytes.Equal(got, b) {
			t.Errorf("Open(Seal(%x)) = %x, %d", b, got, e)
		}
	}
}

func TestOpenOfTooFew(t *testing.T) {
	for size := range Size {
		if got, e := Open(make([]byte, size)); e != api.ErrShort || len(got) != 0 {
			t.Errorf("Open of %d bytes = %x, %d, want ErrShort", size, got, e)
		}
	}
	if got, e := Open(nil); e != api.ErrShort || len(got) != 0 {
		t.Errorf("Open of none = %x, %d, want ErrShort", got, e)
	}
	// The sum of none is 0, so that four noughts are whole.
	if got, e := Open(make([]byte, Size)); e != api.OK || len(got) != 0 {
		t.Errorf("Open of four noughts = %x, %d, want none, OK", got, e)
	}
	if got, e := Open([]byte{0, 0, 0, 1}); e != api.ErrSum || len(got) != 0 {
		t.Errorf("Open of a wrong sum of none = %x, %d, want ErrSum", got, e)
	}
}

func TestOpenOfAWrongBit(t *testing.T) {
	sealed := Seal([]byte("123456789"))
	for i := range 8 * len(sealed) {
		wrong := bytes.Clone(sealed)
		wrong[i/8] ^= 1 << (i % 8)
		if got, e := Open(wrong); e != api.ErrSum || len(got) != 0 {
			t.Errorf("Open with the bit %d turned = %x, %d, want ErrSum", i, got, e)
		}
	}
	if got, e := Open([]byte("123456789\xCB\xF4\x39\x26")); e != api.ErrSum || len(got) != 0 {
		t.Errorf("Open with the highest byte first = %x, %d, want ErrSum", got, e)
	}
}

func TestOpenStopsAtTheLength(t *testing.T) {
	sealed := Seal([]byte("12"))
	if got, e := Open(sealed[:3]); e != api.ErrShort || len(got) != 0 {
		t.Errorf("Open of three bytes with spare room = %x, %d, want ErrShort", got, e)
	}
	if got, e := Open(sealed[:5]); e != api.ErrSum || len(got) != 0 {
		t.Errorf("Open without the last byte = %x, %d, want ErrSum", got, e)
	}
}

func scribble(b []byte) {
	b = b[:cap(b)]
	for i := range b {
		b[i] ^= 0xFF
	}
}

// TestAnswersAreNewMemory: rule 4: what is written over an answer, its spare room too, isn't seen in what was handed in, nor the other way.
func TestAnswersAreNewMemory(t *testing.T) {
	open := func(b []byte) []byte { got, _ := Open(b); return got }
	for _, body := range []string{"", "a", "123456789"} {
		for name, call := range map[string]func([]byte) []byte{"Seal": Seal, "Open": open} {
			backing := append([]byte{7, 8}, Seal([]byte(body))...)
			b := append(backing, 1, 2, 3, 4, 5, 6, 7, 8)[2 : len(backing) : len(backing)+8]
			whole := b[:cap(b)]
			before := bytes.Clone(whole)
			got, twin := call(b), call(b)
			want := bytes.Clone(got)
			if !bytes.Equal(whole, before) {
				t.Errorf("%s of %q changed what was handed in", name, body)
			}
			scribble(twin)
			if !bytes.Equal(whole, before) || !bytes.Equal(got, want) {
				t.Errorf("%s of %q: an answer shares memory with its argument or another answer", name, body)
			}
			scribble(b)
			if !bytes.Equal(got, want) {
				t.Errorf("%s of %q: the answer changed with the argument", name, body)
			}
		}
	}
}

func TestSumLeavesItsPieces(t *testing.T) {
	pieces := [][]byte{[]byte("ab"), nil, []byte("c")}
	first := Sum(pieces...)
	if second := Sum(pieces...); first != second || string(pieces[0]) != "ab" || pieces[1] != nil || string(pieces[2]) != "c" {
		t.Errorf("Sum changed its pieces: %q, %X, %X", pieces, first, second)
	}
}
