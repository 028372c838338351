package crc

import (
	"bytes"
	"hash/crc32"
	"math/rand"
	"slices"
	"testing"
)

// byBits is the chapter's rule to the letter, bit by bit.
func byBits(sum uint32, b []byte) uint32 {
	r := ^sum
	for _, x := range b {
		for i := range 8 {
			t := (r ^ uint32(x)>>i) & 1
			r >>= 1
			if t == 1 {
				r ^= 0x82f63b78
			}
		}
	}
	return ^r
}

func noise(seed int64, n int) []byte {
	b := make([]byte, n)
	rand.New(rand.NewSource(seed)).Read(b)
	return b
}

func turn(b []byte, bit int) { b[bit/8] ^= 1 << (bit % 8) }

// P1.1, the chapter's examples.
func TestExamples(t *testing.T) {
	for _, c := range []struct {
		b   []byte
		sum uint32
	}{
		{[]byte("123456789"), 0xe3069283},
		{nil, 0},
		{[]byte{}, 0},
		{[]byte{0}, 0x527d5351},
		{make([]byte, 4), 0x48674bc7},
	} {
		if got := Sum(c.b); got != c.sum {
			t.Errorf("Sum(%x) = %08x, want %08x", c.b, got, c.sum)
		}
	}
	if got := Extend(Sum([]byte("1234")), []byte("56789")); got != 0xe3069283 {
		t.Errorf("Extend of 1234 by 56789 = %08x", got)
	}
}

// P1.1: each byte alone, and each length from none on.
func TestSumIsTheRule(t *testing.T) {
	for x := range 256 {
		b := []byte{byte(x)}
		if got, want := Sum(b), byBits(0, b); got != want {
			t.Errorf("Sum(%x) = %08x, want %08x", b, got, want)
		}
	}
	for n := range 300 {
		b := noise(int64(n), n)
		if got, want := Sum(b), byBits(0, b); got != want {
			t.Errorf("Sum of %d bytes = %08x, want %08x", n, got, want)
		}
	}
}

// P1.1: more than a frame's worth, against the library's table of the same polynomial.
func TestSumOfManyBytes(t *testing.T) {
	table := crc32.MakeTable(crc32.Castagnoli)
	for _, n := range []int{65535, 65536, 65537, 1 << 20} {
		b := noise(int64(n), n)
		if got, want := Sum(b), crc32.Checksum(b, table); got != want {
			t.Errorf("Sum of %d bytes = %08x, want %08x", n, got, want)
		}
	}
}

// P1.1: cut anywhere, into two or three, the sum is that of the whole.
func TestExtendPutsTogether(t *testing.T) {
	b := noise(1, 40)
	want := Sum(b)
	for i := range len(b) + 1 {
		for j := i; j <= len(b); j++ {
			if got := Extend(Extend(Sum(b[:i]), b[i:j]), b[j:]); got != want {
				t.Errorf("cut at %d and %d: %08x, want %08x", i, j, got, want)
			}
		}
	}
	if got := Extend(0, b); got != want {
		t.Errorf("Extend(0, b) = %08x, Sum(b) = %08x", got, want)
	}
}

// P1.1: any number is taken as a sum, the same steps are done.
func TestExtendOfAnySum(t *testing.T) {
	sums := []uint32{0, 1, 0x7fffffff, 0x80000000, 0xdeadbeef, 0xfffffffe, 0xffffffff}
	for i, sum := range sums {
		if got := Extend(sum, nil); got != sum {
			t.Errorf("Extend(%08x, nil) = %08x", sum, got)
		}
		for n := range 20 {
			b := noise(int64(100*i+n), n)
			if got, want := Extend(sum, b), byBits(sum, b); got != want {
				t.Errorf("Extend(%08x, %x) = %08x, want %08x", sum, b, got, want)
			}
		}
	}
}

// P1.2: one bit turned anywhere.
func TestOneBitTurned(t *testing.T) {
	b := noise(2, 500)
	want := Sum(b)
	for i := range 8 * len(b) {
		turn(b, i)
		if Sum(b) == want {
			t.Errorf("bit %d turned: the same sum", i)
		}
		turn(b, i)
	}
}

// P1.2: two bits turned, up to 32 bits' room apart.
func TestTwoBitsTurned(t *testing.T) {
	b := noise(3, 24)
	want := Sum(b)
	for i := range 8 * len(b) {
		for j := i + 1; j <= i+32 && j < 8*len(b); j++ {
			turn(b, i)
			turn(b, j)
			if Sum(b) == want {
				t.Errorf("bits %d and %d turned: the same sum", i, j)
			}
			turn(b, i)
			turn(b, j)
		}
	}
}

// P1.2: many bits turned within 32, all of them among others.
func TestBurstsTurned(t *testing.T) {
	b := noise(4, 24)
	want := Sum(b)
	r := rand.New(rand.NewSource(5))
	for start := range 8*len(b) - 31 {
		for k := range 40 {
			mask := r.Uint32() | 1
			if k == 0 {
				mask = 0xffffffff
			}
			c := slices.Clone(b)
			for i := range 32 {
				if mask>>i&1 == 1 {
					turn(c, start+i)
				}
			}
			if Sum(c) == want {
				t.Errorf("bits %08x from %d on turned: the same sum", mask, start)
			}
		}
	}
}

// P1.2: three of one length, mixed.
func TestSumsOfThreeMixed(t *testing.T) {
	for n := range 80 {
		a, b, c := noise(int64(3*n), n), noise(int64(3*n+1), n), noise(int64(3*n+2), n)
		m := make([]byte, n)
		for i := range m {
			m[i] = a[i] ^ b[i] ^ c[i]
		}
		if Sum(a)^Sum(b)^Sum(c) != Sum(m) {
			t.Errorf("of %d bytes: the sums mixed aren't the sum of the mixed", n)
		}
	}
}

// P1.3: neither the bytes nor the room behind their end; and that room isn't looked at.
func TestBytesStay(t *testing.T) {
	room := noise(6, 64)
	was := slices.Clone(room)
	b := room[8:40]
	first, more := Sum(b), Extend(7, b)
	if !bytes.Equal(room, was) {
		t.Error("the bytes, or those around them, were changed")
	}
	for i := 40; i < len(room); i++ {
		room[i] ^= 255
	}
	if Sum(b) != first || Extend(7, b) != more {
		t.Error("the sum hangs on what lies behind the bytes' end")
	}
}

// The halves: lower ahead of upper, and a range over them may end at any.
func TestHalves(t *testing.T) {
	b := []byte{0x21, 0x43, 0x65}
	for end := range 7 {
		var got []uint32
		for h := range halves(b) {
			if len(got) == end {
				break
			}
			got = append(got, h)
		}
		if want := []uint32{1, 2, 3, 4, 5, 6}[:end]; !slices.Equal(got, want) {
			t.Errorf("the first %d halves: %v", end, got)
		}
	}
}
