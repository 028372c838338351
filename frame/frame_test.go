package frame

import (
	"bytes"
	"encoding/binary"
	"hash/crc32"
	"math"
	"math/rand"
	"slices"
	"testing"

	"millrace/api"
)

func noise(seed int64, n int) []byte {
	b := make([]byte, n)
	rand.New(rand.NewSource(seed)).Read(b)
	return b
}

func sum(b []byte) uint32 { return crc32.Checksum(b, crc32.MakeTable(crc32.Castagnoli)) }

// head is the eight bytes ahead of a payload of any length, made by the library.
func head(n uint32) []byte {
	b := binary.LittleEndian.AppendUint32(nil, n)
	return binary.LittleEndian.AppendUint32(b, sum(b))
}

// byHand is the chapter's frame to the letter, for payloads of any length.
func byHand(payload []byte) []byte {
	b := append(head(uint32(len(payload))), payload...)
	return binary.LittleEndian.AppendUint32(b, sum(payload))
}

// row is a row of frames, and where each begins and the last one ends.
func row(payloads [][]byte) ([]byte, []int) {
	var b []byte
	places := []int{0}
	for _, p := range payloads {
		b = append(b, byHand(p)...)
		places = append(places, len(b))
	}
	return b, places
}

func somePayloads() [][]byte {
	return [][]byte{nil, []byte("abc"), {0}, noise(1, 40), {}, make([]byte, 9), noise(2, 300), {255, 255, 255, 255}}
}

func same(a, b [][]byte) bool { return slices.EqualFunc(a, b, bytes.Equal) }

// told is what a range over All tells.
func told(b []byte) [][]byte { return slices.Collect(All(b)) }

// P2.1, P2.2, P2.3: the chapter's examples.
func TestExamples(t *testing.T) {
	none, e := Put(nil)
	if want := []byte{0, 0, 0, 0, 0xc7, 0x4b, 0x67, 0x48, 0, 0, 0, 0}; e != api.OK || !bytes.Equal(none, want) {
		t.Errorf("Put of none: %x, %d", none, e)
	}
	if p, behind, e := Next(none, 0); len(p) != 0 || behind != 12 || e != api.OK {
		t.Errorf("Next of it: %x, %d, %d", p, behind, e)
	}
	if _, _, e := Next(make([]byte, 8), 0); e != api.ErrSum {
		t.Errorf("Next of eight bytes 0: %d", e)
	}
	if _, _, e := Next(make([]byte, 8), 8); e != api.ErrEnd {
		t.Errorf("Next behind eight bytes: %d", e)
	}
	two := [][]byte{[]byte("ab"), []byte("c")}
	b, places := row(two)
	got, end := Cut(append(b, 1, 2, 3))
	if !same(got, two) || end != places[2] {
		t.Errorf("Cut of two frames and three bytes: %q, %d", got, end)
	}
}

// P2.1: the frame of each length, also where the length takes one more byte, up to the greatest.
func TestPutIsTheFrame(t *testing.T) {
	for _, n := range []int{0, 1, 2, 3, 4, 7, 8, 12, 127, 255, 256, 257, 4096, 65535, api.MaxFrame} {
		p := noise(int64(n), n)
		f, e := Put(p)
		if e != api.OK || !bytes.Equal(f, byHand(p)) {
			t.Errorf("Put of %d bytes isn't their frame, %d", n, e)
		}
	}
}

// P2.1: one byte too many, and far more.
func TestPutTooLong(t *testing.T) {
	for _, n := range []int{api.MaxFrame + 1, 2 * api.MaxFrame, 1 << 20} {
		if f, e := Put(make([]byte, n)); f != nil || e != api.ErrLong {
			t.Errorf("Put of %d bytes: %d bytes, %d", n, len(f), e)
		}
	}
}

// P2.2: each frame of a row, at its place.
func TestNextGoesOn(t *testing.T) {
	payloads := append(somePayloads(), noise(3, api.MaxFrame), []byte("z"))
	b, places := row(payloads)
	for i, want := range payloads {
		p, behind, e := Next(b, places[i])
		if e != api.OK || behind != places[i+1] || !bytes.Equal(p, want) {
			t.Errorf("Next at %d: %d bytes, %d, %d", places[i], len(p), behind, e)
		}
	}
	if _, _, e := Next(b, len(b)); e != api.ErrEnd {
		t.Errorf("Next at the end: %d", e)
	}
}

// refused asks whether Next answers the error, and nothing beside it.
func refused(t *testing.T, what string, b []byte, at int, want api.Errno) {
	t.Helper()
	if p, behind, e := Next(b, at); p != nil || behind != 0 || e != want {
		t.Errorf("%s: %x, %d, error %d, want %d", what, p, behind, e, want)
	}
}

// P2.2: the errors, and which one is first where several apply.
func TestNextErrors(t *testing.T) {
	good := byHand([]byte("abc"))
	spoilt := func(at int) []byte {
		b := slices.Clone(good)
		b[at] ^= 1
		return b
	}
	long := byHand(make([]byte, api.MaxFrame+1))
	longSpoilt := slices.Clone(long)
	longSpoilt[len(long)-1] ^= 1
	for _, c := range []struct {
		what string
		b    []byte
		at   int
		e    api.Errno
	}{
		{"below 0", good, -1, api.ErrArg},
		{"far below 0", good, math.MinInt, api.ErrArg},
		{"behind the end", good, len(good) + 1, api.ErrArg},
		{"far behind the end", good, math.MaxInt, api.ErrArg},
		{"behind the end of none", nil, 1, api.ErrArg},
		{"below 0 of none", nil, -1, api.ErrArg},
		{"none", nil, 0, api.ErrEnd},
		{"at the end", good, len(good), api.ErrEnd},
		{"seven bytes left", good, len(good) - 7, api.ErrEnd},
		{"seven bytes, none of them a head's", []byte{9, 9, 9, 9, 9, 9, 9}, 0, api.ErrEnd},
		{"eight bytes left that are no head", good, len(good) - 8, api.ErrSum},
		{"a head alone whose length is spoilt", spoilt(0)[:8], 0, api.ErrSum},
		{"a head alone whose sum is spoilt", spoilt(4)[:8], 0, api.ErrSum},
		{"a length spoilt to too much", spoilt(3), 0, api.ErrSum},
		{"the greatest length, its sum spoilt", []byte{255, 255, 255, 255, 0, 0, 0, 0}, 0, api.ErrSum},
		{"a length of one too much, all there", long, 0, api.ErrLong},
		{"a length of one too much, all there, the payload spoilt", longSpoilt, 0, api.ErrLong},
		{"a length of one too much, cut short", head(api.MaxFrame + 1), 0, api.ErrLong},
		{"a length that is below 0, if taken so", head(1 << 31), 0, api.ErrLong},
		{"the greatest length", head(math.MaxUint32), 0, api.ErrLong},
		{"the greatest length allowed, cut short", head(api.MaxFrame), 0, api.ErrEnd},
		{"a head alone", good[:8], 0, api.ErrEnd},
		{"no sum behind", good[:11], 0, api.ErrEnd},
		{"one byte missing", good[:len(good)-1], 0, api.ErrEnd},
		{"one byte missing, the payload spoilt", spoilt(8)[:len(good)-1], 0, api.ErrEnd},
		{"no payload, one byte of its sum missing", byHand(nil)[:11], 0, api.ErrEnd},
		{"the payload spoilt", spoilt(9), 0, api.ErrSum},
		{"the payload's sum spoilt", spoilt(14), 0, api.ErrSum},
	} {
		refused(t, c.what, c.b, c.at, c.e)
		if c.at >= 0 && c.at < math.MaxInt {
			refused(t, c.what+", behind a frame", append(byHand([]byte("ahead")), c.b...), 17+c.at, c.e)
		}
	}
}

// P2.2: the chapter's example 2 says ErrSum here, but the sum of four bytes ff is ffffffff (layer 1): it fits, so by the promise's order the length, which is above the limit, is the first error.
func TestNextOfEightBytesFF(t *testing.T) {
	b := bytes.Repeat([]byte{255}, 8)
	if sum(b[:4]) != math.MaxUint32 {
		t.Fatalf("the sum of four bytes ff: %08x", sum(b[:4]))
	}
	if p, behind, e := Next(b, 0); p != nil || behind != 0 || e != api.ErrLong {
		t.Errorf("Next: %x, %d, %d", p, behind, e)
	}
	if got, end := Cut(b); len(got) != 0 || end != 0 {
		t.Errorf("Cut: %q, %d", got, end)
	}
}

// P2.2: a frame begins at any place, whatever lies ahead.
func TestNextBehindOther(t *testing.T) {
	for n := range 20 {
		b := append(noise(int64(n), n), byHand([]byte("abc"))...)
		if p, behind, e := Next(b, n); string(p) != "abc" || behind != len(b) || e != api.OK {
			t.Errorf("Next at %d: %q, %d, %d", n, p, behind, e)
		}
	}
}

// P2.3: rows of frames with something behind them that is none.
func TestCutAndAll(t *testing.T) {
	payloads := somePayloads()
	for n := range len(payloads) + 1 {
		b, places := row(payloads[:n])
		for _, behind := range [][]byte{nil, {1}, {1, 2, 3}, make([]byte, 8), make([]byte, 500), byHand([]byte("abcd"))[:15], head(api.MaxFrame + 1)} {
			whole := append(slices.Clone(b), behind...)
			got, end := Cut(whole)
			if !same(got, payloads[:n]) || end != places[n] {
				t.Errorf("Cut of %d frames, %x behind: %x, %d", n, behind, got, end)
			}
			if !same(told(whole), payloads[:n]) {
				t.Errorf("All of %d frames, %x behind: %x", n, behind, told(whole))
			}
		}
	}
	if got, end := Cut(nil); len(got) != 0 || end != 0 || len(told(nil)) != 0 {
		t.Error("there are frames of none")
	}
}

// P2.3: frames behind bytes that are none aren't told.
func TestCutStopsForGood(t *testing.T) {
	b := slices.Concat(byHand([]byte("a")), []byte{7}, byHand([]byte("b")))
	if got, end := Cut(b); len(got) != 1 || end != 13 || len(told(b)) != 1 {
		t.Errorf("Cut: %q, %d", got, end)
	}
	long := slices.Concat(byHand([]byte("a")), byHand(make([]byte, api.MaxFrame+1)), byHand([]byte("b")))
	if got, end := Cut(long); len(got) != 1 || end != 13 || len(told(long)) != 1 {
		t.Errorf("Cut at a payload that is too long: %d frames, %d", len(got), end)
	}
}

// P2.3: a range may end at any payload, and be begun anew.
func TestAllEndsAtAny(t *testing.T) {
	payloads := somePayloads()
	b, _ := row(payloads)
	all := All(b)
	for n := range len(payloads) + 1 {
		var got [][]byte
		for p := range all {
			if len(got) == n {
				break
			}
			got = append(got, p)
		}
		if !same(got, payloads[:n]) {
			t.Errorf("a range that ends behind %d: %x", n, got)
		}
	}
}

// P2.4: what is put is cut.
func TestPutIsCut(t *testing.T) {
	r := rand.New(rand.NewSource(4))
	for i := range 100 {
		var b []byte
		var payloads [][]byte
		for j := range r.Intn(12) {
			p := noise(int64(100*i+j), r.Intn(200))
			f, e := Put(p)
			if e != api.OK {
				t.Fatalf("Put: %d", e)
			}
			b = append(b, f...)
			payloads = append(payloads, p)
		}
		if got, end := Cut(b); !same(got, payloads) || end != len(b) {
			t.Errorf("Cut of %d frames: %d, up to %d of %d", len(payloads), len(got), end, len(b))
		}
	}
}

// upTo asks whether of a row that was spoilt at a place, and not ahead of it, the payloads ahead are cut and none behind.
func upTo(t *testing.T, what string, b []byte, payloads [][]byte, places []int, spoilt int) {
	t.Helper()
	n := 0
	for n < len(payloads) && places[n+1] <= spoilt {
		n++
	}
	got, end := Cut(b)
	if !same(got, payloads[:n]) || end != places[n] || !same(told(b), payloads[:n]) {
		t.Errorf("%s at %d: %d payloads, up to %d; want %d, %d", what, spoilt, len(got), end, n, places[n])
	}
}

// P2.4: a row cut short anywhere.
func TestRowCutShort(t *testing.T) {
	payloads := somePayloads()
	b, places := row(payloads)
	for n := range b {
		upTo(t, "cut", b[:n], payloads, places, n)
	}
}

// P2.4: each bit turned.
func TestOneBitTurned(t *testing.T) {
	payloads := somePayloads()
	b, places := row(payloads)
	for i := range 8 * len(b) {
		b[i/8] ^= 1 << (i % 8)
		upTo(t, "a bit turned", b, payloads, places, i/8)
		b[i/8] ^= 1 << (i % 8)
	}
}

// P2.4: bits of up to four bytes in a row turned, wherever these lie.
func TestFourBytesTurned(t *testing.T) {
	payloads := somePayloads()
	b, places := row(payloads)
	r := rand.New(rand.NewSource(5))
	for at := range len(b) - 3 {
		for k := range 12 {
			mask := [4]byte{255, 255, 255, 255}
			if k > 0 {
				binary.LittleEndian.PutUint32(mask[:], r.Uint32())
			}
			mask[0] |= 1
			c := slices.Clone(b)
			for i, m := range mask {
				c[at+i] ^= m
			}
			upTo(t, "four bytes turned", c, payloads, places, at)
		}
	}
}

// P2.4: four bytes of anything written over a frame make no other frame of it; eight bytes of 0 begin none.
func TestNoOtherFrame(t *testing.T) {
	f := byHand([]byte("abcdefgh"))
	for at := range len(f) - 3 {
		for _, four := range []uint32{0, 1, 4, 12, 16, api.MaxFrame, math.MaxUint32, sum(nil), sum(make([]byte, 4)), sum(f[:4]), sum(f[8:16])} {
			c := slices.Clone(f)
			binary.LittleEndian.PutUint32(c[at:], four)
			if got, _ := Cut(c); len(got) != 0 && !bytes.Equal(c, f) {
				t.Errorf("%08x at %d makes a frame of %q", four, at, got[0])
			}
		}
	}
	if got, end := Cut(make([]byte, 4096)); len(got) != 0 || end != 0 {
		t.Errorf("noughts make %d frames", len(got))
	}
}

// P2.5: neither the bytes, nor those around them, are changed; those behind aren't looked at.
func TestBytesStay(t *testing.T) {
	frames, _ := row(somePayloads())
	room := slices.Concat([]byte{1, 2, 3}, frames, byHand([]byte("behind")))
	was := slices.Clone(room)
	b := room[3 : 3+len(frames)]
	f, _ := Put(b)
	got, end := Cut(b)
	if end != len(b) || !same(got, somePayloads()) || !same(told(b), got) || !bytes.Equal(f, byHand(b)) {
		t.Error("what lies around the bytes counts")
	}
	if _, _, e := Next(b, len(b)); e != api.ErrEnd {
		t.Errorf("Next at the end, a frame in the room behind: %d", e)
	}
	if !bytes.Equal(room, was) {
		t.Error("the bytes, or those around them, were changed")
	}
}

func fill(b []byte) {
	b = b[:cap(b)]
	for i := range b {
		b[i] = 0xee
	}
}

// P2.5: what is done to an answer, and to the room behind its end, touches neither the arguments nor another answer.
func TestAnswersAreNew(t *testing.T) {
	payloads := somePayloads()
	b, places := row(payloads)
	was := slices.Clone(b)
	all := All(b)
	cut, _ := Cut(b)
	again, _ := Cut(b)
	first := slices.Collect(all)
	for i := range payloads {
		one, _, _ := Next(b, places[i])
		put, _ := Put(cut[i])
		fill(one)
		fill(put)
		if !bytes.Equal(cut[i], payloads[i]) {
			t.Errorf("Cut's payload %d was changed", i)
		}
		fill(cut[i])
		fill(first[i])
	}
	if !bytes.Equal(b, was) {
		t.Error("the frames were changed through an answer")
	}
	if !same(again, payloads) || !same(slices.Collect(all), payloads) {
		t.Error("an answer was changed through another one")
	}
}

// P2.5: an answer hangs on the bytes as they were handed in, also that of All, which is ranged over later.
func TestNothingIsKept(t *testing.T) {
	payloads := somePayloads()
	b, places := row(payloads)
	all := All(b)
	cut, _ := Cut(b)
	one, _, _ := Next(b, places[1])
	three := []byte("abc")
	put, _ := Put(three)
	fill(b)
	fill(three)
	if !same(cut, payloads) || string(one) != "abc" || !bytes.Equal(put, byHand([]byte("abc"))) {
		t.Error("an answer shares memory with its argument")
	}
	if !same(slices.Collect(all), payloads) {
		t.Error("All tells what became of the bytes behind its call")
	}
}
