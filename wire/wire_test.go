package wire

import (
	"bytes"
	"encoding/binary"
	"math"
	"math/rand"
	"slices"
	"strings"
	"testing"

	"millrace/api"
)

// byHand is the chapter's bytes to the letter, of any items, also of more than a limit allows. (The library's signed numbers are the chapter's: 2 N, or -2 N - 1.)
func byHand(items ...api.Item) []byte {
	var b []byte
	for _, it := range items {
		b = append(b, byte(it.Kind))
		switch it.Kind {
		case api.IInt:
			b = binary.AppendVarint(b, int64(it.N))
		case api.IText:
			b = binary.AppendUvarint(b, uint64(len(it.S)))
			b = append(b, it.S...)
		case api.IList:
			b = binary.AppendUvarint(b, uint64(len(it.List)))
			b = append(b, byHand(it.List...)...)
		}
	}
	return b
}

// ofInt, ofText and ofList make items without the package's help.
func ofInt(n int) api.Item                { return api.Item{Kind: 0, N: n} }
func ofText(s string) api.Item            { return api.Item{Kind: 1, S: s} }
func ofList(items ...api.Item) api.Item   { return api.Item{Kind: 2, List: items} }
func times(n int, it api.Item) []api.Item { return slices.Repeat([]api.Item{it}, n) }

// nested is an item within so many lists.
func nested(lists int, it api.Item) api.Item {
	for range lists {
		it = ofList(it)
	}
	return it
}

func same(a, b []api.Item) bool {
	return slices.EqualFunc(a, b, func(x, y api.Item) bool {
		return x.Kind == y.Kind && x.N == y.N && x.S == y.S && same(x.List, y.List)
	})
}

// deepCopy is for holding what was against what is.
func deepCopy(items []api.Item) []api.Item {
	var c []api.Item
	for _, it := range items {
		it.List = deepCopy(it.List)
		c = append(c, it)
	}
	return c
}

func oddText() string {
	var s []byte
	for i := range 256 {
		s = append(s, byte(255-i))
	}
	return string(s)
}

// someItems is a message of all kinds, some within one another.
func someItems() []api.Item {
	return []api.Item{
		ofInt(0), ofText(""), ofList(), ofInt(-1), ofInt(math.MaxInt), ofInt(math.MinInt),
		ofText("a"), ofText(oddText()), ofText("\x00"), ofText("ä\xff"),
		ofList(ofInt(7)), ofList(ofText("x"), ofList(ofInt(-300), ofList(), ofText("yz")), ofInt(1)),
		nested(7, ofText("deep")), nested(7, ofList()), ofList(times(200, ofInt(3))...),
	}
}

func encoded(t *testing.T, what string, items []api.Item) {
	t.Helper()
	if b, e := Encode(items); e != api.OK || !bytes.Equal(b, byHand(items...)) {
		t.Errorf("Encode of %s: %d bytes, error %d", what, len(b), e)
	}
}

func unencoded(t *testing.T, what string, items []api.Item, want api.Errno) {
	t.Helper()
	if b, e := Encode(items); b != nil || e != want {
		t.Errorf("Encode of %s: %d bytes, error %d, want %d", what, len(b), e, want)
	}
}

func decoded(t *testing.T, what string, b []byte, want []api.Item) {
	t.Helper()
	if items, e := Decode(b); e != api.OK || !same(items, want) {
		t.Errorf("Decode of %s: %d items, error %d", what, len(items), e)
	}
}

func undecoded(t *testing.T, what string, b []byte, want api.Errno) {
	t.Helper()
	if items, e := Decode(b); items != nil || e != want {
		t.Errorf("Decode of %s: %d items, error %d, want %d", what, len(items), e, want)
	}
}

// P3.1, P3.2: the chapter's examples.
func TestExamples(t *testing.T) {
	for _, c := range []struct {
		items []api.Item
		b     []byte
	}{
		{[]api.Item{Int(5), Int(-1), Text("a")}, []byte{0, 10, 0, 1, 1, 1, 97}},
		{[]api.Item{Int(-1 << 63)}, []byte{0, 255, 255, 255, 255, 255, 255, 255, 255, 255, 1}},
		{[]api.Item{List(Int(0))}, []byte{2, 1, 0, 0}},
		{nil, nil},
	} {
		if b, e := Encode(c.items); e != api.OK || !bytes.Equal(b, c.b) {
			t.Errorf("Encode of %v: %v, %d", c.items, b, e)
		}
		if items, e := Decode(c.b); e != api.OK || !same(items, c.items) {
			t.Errorf("Decode of %v: %v, %d", c.b, items, e)
		}
	}
	undecoded(t, "0 128 0", []byte{0, 128, 0}, api.ErrForm)
	undecoded(t, "3", []byte{3}, api.ErrForm)
	undecoded(t, "1 5 97", []byte{1, 5, 97}, api.ErrEnd)
	undecoded(t, "2 1", []byte{2, 1}, api.ErrEnd)
}

// someInts are those at which a number takes one more digit, and their neighbours.
func someInts() []int {
	ns := []int{math.MinInt, math.MinInt + 1, math.MaxInt, math.MaxInt - 1}
	for i := range 63 {
		n := 1 << i
		ns = append(ns, n-1, n, n+1, -n-1, -n, -n+1)
	}
	return ns
}

// P3.1, P3.2: each width of an int.
func TestInts(t *testing.T) {
	for _, n := range someInts() {
		encoded(t, "an int", []api.Item{ofInt(n)})
		decoded(t, "an int", byHand(ofInt(n)), []api.Item{ofInt(n)})
	}
}

// P3.1, P3.2: texts of any bytes, also where their length takes one more digit.
func TestTexts(t *testing.T) {
	for _, s := range []string{"", "a", "\x00", "\xff\xfe", oddText(), strings.Repeat("b", 127), strings.Repeat("b", 128), strings.Repeat("c", 16383), strings.Repeat("c", 16384)} {
		encoded(t, "a text", []api.Item{ofText(s)})
		decoded(t, "a text", byHand(ofText(s)), []api.Item{ofText(s)})
	}
}

// P3.1, P3.2: lists, also where their count takes one more digit, within one another, and one behind the other.
func TestLists(t *testing.T) {
	for _, n := range []int{0, 1, 2, 127, 128, 129, 4095} {
		items := []api.Item{ofList(times(n, ofInt(n))...)}
		encoded(t, "a list", items)
		decoded(t, "a list", byHand(items...), items)
	}
	encoded(t, "some items", someItems())
	decoded(t, "some items", byHand(someItems()...), someItems())
}

// P3.1: a list without items may be nil or empty, for an int and a text too.
func TestEmptyIsNil(t *testing.T) {
	for kind := range 3 {
		b, e := Encode([]api.Item{{Kind: kind, List: []api.Item{}}})
		if e != api.OK || !bytes.Equal(b, []byte{byte(kind), 0}) {
			t.Errorf("kind %d with an empty list: %v, %d", kind, b, e)
		}
	}
	if b, e := Encode([]api.Item{}); len(b) != 0 || e != api.OK {
		t.Errorf("an empty message: %v, %d", b, e)
	}
}

// notInForm are items with a wrong kind, or a field that their kind doesn't name.
func notInForm() []api.Item {
	full := []api.Item{ofInt(0)}
	return []api.Item{
		{Kind: -1}, {Kind: 3}, {Kind: 256}, {Kind: 257}, {Kind: math.MaxInt}, {Kind: math.MinInt}, {Kind: 3, N: 1, S: "a", List: full},
		{Kind: 0, S: "a"}, {Kind: 0, List: full}, {Kind: 0, N: 5, S: "\x00"}, {Kind: 0, N: 5, List: full}, {Kind: 0, S: "a", List: full},
		{Kind: 1, N: 3}, {Kind: 1, N: -1, S: "a"}, {Kind: 1, List: full}, {Kind: 1, S: "a", List: full}, {Kind: 1, N: 1, List: full},
		{Kind: 2, N: 1}, {Kind: 2, S: "a"}, {Kind: 2, N: 1, List: full}, {Kind: 2, S: "a", List: full}, {Kind: 2, N: 1, S: "a"},
	}
}

// P3.1: each of them, wherever it stands.
func TestNotInForm(t *testing.T) {
	for _, bad := range notInForm() {
		unencoded(t, "an item not in form", []api.Item{bad}, api.ErrForm)
		unencoded(t, "one behind others", append(someItems(), bad), api.ErrForm)
		unencoded(t, "one in a list", []api.Item{ofList(ofInt(1), bad)}, api.ErrForm)
		unencoded(t, "one as deep as may be", []api.Item{nested(7, bad)}, api.ErrForm)
		unencoded(t, "one too deep", []api.Item{nested(8, bad)}, api.ErrForm)
		unencoded(t, "one that is the last allowed", append(times(4095, ofInt(0)), bad), api.ErrForm)
		unencoded(t, "one that is one too many", append(times(4096, ofInt(0)), bad), api.ErrForm)
	}
}

// P3.1: how many, and how deep.
func TestEncodeLimits(t *testing.T) {
	encoded(t, "4096 items", times(4096, ofInt(1)))
	unencoded(t, "4097 items", times(4097, ofInt(1)), api.ErrLong)
	encoded(t, "a list of 4095", []api.Item{ofList(times(4095, ofInt(1))...)})
	unencoded(t, "a list of 4096", []api.Item{ofList(times(4096, ofInt(1))...)}, api.ErrLong)
	encoded(t, "2048 lists of one", times(2048, ofList(ofText(""))))
	unencoded(t, "2048 lists of one, and one", append(times(2048, ofList(ofText(""))), ofInt(0)), api.ErrLong)
	unencoded(t, "4096 items and a list", append(times(4096, ofInt(1)), ofList()), api.ErrLong)

	encoded(t, "depth 8", []api.Item{nested(7, ofInt(1))})
	encoded(t, "an empty list of depth 8", []api.Item{nested(7, ofList())})
	unencoded(t, "depth 9", []api.Item{nested(8, ofInt(1))}, api.ErrLong)
	unencoded(t, "an empty list of depth 9", []api.Item{nested(8, ofList())}, api.ErrLong)
	unencoded(t, "depth 9 behind others", append(someItems(), nested(8, ofText("a"))), api.ErrLong)
	unencoded(t, "far too deep", []api.Item{nested(1<<16, ofInt(1))}, api.ErrLong)
	encoded(t, "depth 8 again and again", times(500, nested(7, ofInt(1))))
}

// P3.1: how many bytes; that is asked last.
func TestEncodeBytes(t *testing.T) {
	encoded(t, "65536 bytes", []api.Item{ofText(strings.Repeat("a", 65532))})
	unencoded(t, "65537 bytes", []api.Item{ofText(strings.Repeat("a", 65533))}, api.ErrLong)
	encoded(t, "65536 bytes of several", []api.Item{ofInt(9), ofText(strings.Repeat("a", 65526)), ofList(ofInt(-3))})
	unencoded(t, "65537 bytes of several", []api.Item{ofInt(9), ofText(strings.Repeat("a", 65526)), ofList(ofInt(64))}, api.ErrLong)
	unencoded(t, "65537 bytes, a list last", []api.Item{ofText(strings.Repeat("a", 65531)), ofList()}, api.ErrLong)

	big := ofText(strings.Repeat("a", 1<<20))
	unencoded(t, "4096 times a million bytes", times(4096, big), api.ErrLong)
	for _, bad := range notInForm() {
		unencoded(t, "too many bytes, then one not in form", []api.Item{big, ofInt(1), bad}, api.ErrForm)
	}
}

// P3.1: the first that is met, a list ahead of what is in it.
func TestEncodeFirstError(t *testing.T) {
	bad, deep := api.Item{Kind: 3}, nested(8, ofInt(1))
	many := ofList(times(4096, ofInt(1))...)
	for _, c := range []struct {
		what  string
		items []api.Item
		e     api.Errno
	}{
		{"not in form, then too deep", []api.Item{bad, deep}, api.ErrForm},
		{"too deep, then not in form", []api.Item{deep, bad}, api.ErrLong},
		{"too many, then not in form", append(times(4097, ofInt(1)), bad), api.ErrLong},
		{"too many in a list, then not in form", []api.Item{many, bad}, api.ErrLong},
		{"not in form, then too many", append([]api.Item{bad}, times(4097, ofInt(1))...), api.ErrForm},
		{"a list not in form, too deep within", []api.Item{{Kind: 2, N: 1, List: []api.Item{nested(7, ofInt(1))}}}, api.ErrForm},
		{"a text with a list too deep", []api.Item{{Kind: 1, List: []api.Item{deep}}}, api.ErrForm},
		{"a list one too many, what is in it not in form", append(times(4096, ofInt(1)), ofList(bad)), api.ErrLong},
		{"a list too deep, what is in it not in form", []api.Item{nested(8, ofList(bad))}, api.ErrLong},
		{"in a list, behind it", []api.Item{ofList(ofInt(1), deep), bad}, api.ErrLong},
		{"in a list, ahead of it", []api.Item{ofList(ofInt(1), bad), deep}, api.ErrForm},
	} {
		unencoded(t, c.what, c.items, c.e)
	}
}

// P1: Encode ends at lists that have themselves in them.
func TestEncodeEnds(t *testing.T) {
	round := make([]api.Item, 2)
	round[0] = api.Item{Kind: 2, List: round}
	round[1] = api.Item{Kind: 2, List: round}
	unencoded(t, "a list in itself", round, api.ErrLong)
}

func digitsOf(n uint64) []byte { return binary.AppendUvarint(nil, n) }

func row(parts ...any) []byte {
	var b []byte
	for _, p := range parts {
		switch x := p.(type) {
		case int:
			b = append(b, byte(x))
		case []byte:
			b = append(b, x...)
		case string:
			b = append(b, x...)
		}
	}
	return b
}

// P3.2: numbers that have another row of digits, too many digits, or none behind.
func TestDecodeNumbers(t *testing.T) {
	nine := bytes.Repeat([]byte{255}, 9)
	noughts := bytes.Repeat([]byte{128}, 9)
	for kind := range 3 {
		for _, c := range []struct {
			what string
			b    []byte
			e    api.Errno
		}{
			{"none", nil, api.ErrEnd},
			{"a digit with more behind", []byte{128}, api.ErrEnd},
			{"another one", []byte{255}, api.ErrEnd},
			{"nine digits with more behind", nine, api.ErrEnd},
			{"nine noughts with more behind", noughts, api.ErrEnd},
			{"a last digit 0", []byte{128, 0}, api.ErrForm},
			{"a last digit 0 behind 127", []byte{255, 0}, api.ErrForm},
			{"a last digit 0 behind two", []byte{129, 128, 0}, api.ErrForm},
			{"a tenth digit 0", row(nine, 0), api.ErrForm},
			{"a tenth digit 0 behind noughts", row(noughts, 0), api.ErrForm},
			{"a tenth digit 2", row(nine, 2), api.ErrForm},
			{"a tenth digit 2 behind noughts", row(noughts, 2), api.ErrForm},
			{"a tenth digit 127", row(nine, 127), api.ErrForm},
			{"a tenth digit 0 with more behind", row(nine, 128), api.ErrForm},
			{"a tenth digit 1 with more behind", row(noughts, 129), api.ErrForm},
			{"eleven digits", row(nine, 129, 1), api.ErrForm},
			{"many digits", bytes.Repeat([]byte{128}, 500), api.ErrForm},
		} {
			undecoded(t, c.what, row(kind, c.b), c.e)
			undecoded(t, c.what+", behind others", row(byHand(someItems()...), kind, c.b), c.e)
			undecoded(t, c.what+", in a list", row(2, 5, 0, 1, kind, c.b), c.e)
			if c.e == api.ErrForm {
				undecoded(t, c.what+", others behind", row(kind, c.b, byHand(someItems()...)), c.e)
			}
		}
	}
	decoded(t, "a tenth digit 1", row(0, nine, 1), []api.Item{ofInt(math.MinInt)})
	decoded(t, "a tenth digit 1 behind noughts", row(0, noughts, 1), []api.Item{ofInt(1 << 62)})
	decoded(t, "a nought within", []byte{0, 128, 1}, []api.Item{ofInt(64)})
}

// P3.2: lengths and counts that no int holds, and those that are only too great.
func TestDecodeLengths(t *testing.T) {
	for kind := 1; kind < 3; kind++ {
		for _, n := range []uint64{1 << 63, 1<<63 + 1, 1<<64 - 2, math.MaxUint64} {
			undecoded(t, "2^63 or more", row(kind, digitsOf(n)), api.ErrForm)
			undecoded(t, "2^63 or more, something behind", row(kind, digitsOf(n), make([]byte, 300)), api.ErrForm)
		}
		for _, n := range []uint64{1, 2, 65536, 1 << 31, 1 << 32, 1 << 40, 1<<63 - 2, 1<<63 - 1} {
			undecoded(t, "more than are left", row(kind, digitsOf(n)), api.ErrEnd)
		}
	}
	undecoded(t, "a text one byte short", row(1, 3, "ab"), api.ErrEnd)
	decoded(t, "a text that just fits", row(1, 2, "ab"), []api.Item{ofText("ab")})
	decoded(t, "a text and an int", row(1, 2, "ab", 0, 2), []api.Item{ofText("ab"), ofInt(1)})
	undecoded(t, "a text longer than what is left, which is no item", row(1, 9, 3, 3, 3), api.ErrEnd)
	undecoded(t, "a list of two that has one", row(2, 2, 0, 2), api.ErrEnd)
	undecoded(t, "a list of two that has one of none", row(2, 2, 2, 0), api.ErrEnd)
	undecoded(t, "a list in a list that ends", row(2, 1, 2, 1), api.ErrEnd)
	undecoded(t, "a list of far too many that has some", row(2, digitsOf(1<<62), byHand(times(4095, ofInt(0))[1:]...)), api.ErrEnd)
}

// P3.2: a byte that begins no item.
func TestDecodeKinds(t *testing.T) {
	for x := 3; x < 256; x++ {
		undecoded(t, "a wrong kind", []byte{byte(x)}, api.ErrForm)
		undecoded(t, "a wrong kind with a number", []byte{byte(x), 0}, api.ErrForm)
		undecoded(t, "a wrong kind behind", row(byHand(someItems()...), x, 0), api.ErrForm)
		undecoded(t, "a wrong kind in a list", []byte{2, 2, 0, 0, byte(x), 0}, api.ErrForm)
	}
	for kind := range 3 {
		undecoded(t, "a kind alone", []byte{byte(kind)}, api.ErrEnd)
	}
}

func filled(n int) []byte { return byHand(ofText(strings.Repeat("a", n-4))) }

// P3.2: how many bytes; that is asked first.
func TestDecodeBytes(t *testing.T) {
	decoded(t, "65536 bytes", filled(65536), []api.Item{ofText(strings.Repeat("a", 65532))})
	undecoded(t, "65537 bytes", filled(65537), api.ErrLong)
	for x := range 256 {
		undecoded(t, "65537 bytes of anything", bytes.Repeat([]byte{byte(x)}, 65537), api.ErrLong)
	}
	undecoded(t, "65536 bytes 3", bytes.Repeat([]byte{3}, 65536), api.ErrForm)
	undecoded(t, "65536 bytes 0", make([]byte, 65536), api.ErrLong)
	undecoded(t, "65536 bytes 1", bytes.Repeat([]byte{1}, 65536), api.ErrLong)
	undecoded(t, "65536 bytes 2", bytes.Repeat([]byte{2}, 65536), api.ErrLong)
	undecoded(t, "65536 bytes 255 behind a kind", row(0, bytes.Repeat([]byte{255}, 65535)), api.ErrForm)
}

// P3.2: how many items, and how deep; both ahead of the item's bytes, whatever these are.
func TestDecodeLimits(t *testing.T) {
	most := byHand(times(4096, ofInt(1))...)
	decoded(t, "4096 items", most, times(4096, ofInt(1)))
	deepest := byHand(nested(7, ofList()))
	decoded(t, "an empty list of depth 8", deepest, []api.Item{nested(7, ofList())})
	decoded(t, "depth 8", byHand(nested(7, ofInt(1))), []api.Item{nested(7, ofInt(1))})
	decoded(t, "a list of 4095", byHand(ofList(times(4095, ofInt(1))...)), []api.Item{ofList(times(4095, ofInt(1))...)})
	decoded(t, "2048 lists of one", byHand(times(2048, ofList(ofText("")))...), times(2048, ofList(ofText(""))))

	listOfMost := row(2, digitsOf(4096), byHand(times(4095, ofInt(1))...))
	eight := bytes.Repeat([]byte{2, 1}, 8)
	for _, behind := range [][]byte{{0, 0}, {1, 0}, {2, 0}, {0}, {2}, {3}, {255, 255}, {0, 128, 0}, {1, 5, 97}, {1, 255}, {2, 1}, byHand(someItems()...)} {
		undecoded(t, "one too many", row(most, behind), api.ErrLong)
		undecoded(t, "one too many in a list", row(listOfMost, behind), api.ErrLong)
		undecoded(t, "one too deep", row(eight, behind), api.ErrLong)
		undecoded(t, "one too deep, behind others", row(byHand(someItems()...), eight, behind), api.ErrLong)
	}
	undecoded(t, "one too many in a list, its bytes missing", listOfMost, api.ErrLong)
	undecoded(t, "one too deep, its bytes missing", eight, api.ErrLong)
	undecoded(t, "a list of depth 8 of which far too much is said", row(bytes.Repeat([]byte{2, 1}, 7), 2, digitsOf(1<<63)), api.ErrForm)
	undecoded(t, "a list that lacks one, when there are as many as may be less one", listOfMost[:len(listOfMost)-2], api.ErrEnd)
}

// P3.2: the first that is met, from the front.
func TestDecodeFirstError(t *testing.T) {
	eight := bytes.Repeat([]byte{2, 1}, 8)
	undecoded(t, "a wrong kind, then too deep", row(3, eight), api.ErrForm)
	undecoded(t, "too deep, then a wrong kind", row(eight, 0, 0, 3), api.ErrLong)
	undecoded(t, "a wrong number, then too deep", row(0, 128, 0, eight), api.ErrForm)
	undecoded(t, "a wrong kind, then the end within an item", row(3, 1, 5), api.ErrForm)
	undecoded(t, "a wrong kind in a list that lacks items", row(2, 9, 0, 0, 3), api.ErrForm)
	undecoded(t, "a wrong kind, then too many", row(3, byHand(times(4097, ofInt(1))...)), api.ErrForm)
	undecoded(t, "too many, then a wrong kind", row(byHand(times(4097, ofInt(1))...), 3), api.ErrLong)
	undecoded(t, "a length too great for an int, then the end", row(2, 9, 1, digitsOf(1<<63)), api.ErrForm)
}

// P3.2: a message cut short anywhere is either the items ahead or ErrEnd.
func TestCutShort(t *testing.T) {
	items := someItems()
	b := byHand(items...)
	ends := map[int]int{}
	for n := range len(items) + 1 {
		ends[len(byHand(items[:n]...))] = n
	}
	for n := range b {
		if whole, ok := ends[n]; ok {
			decoded(t, "whole items", b[:n], items[:whole])
		} else {
			undecoded(t, "a part of an item", b[:n], api.ErrEnd)
		}
	}
}

// P3.3: the items as they are, each field that isn't named zero.
func TestItems(t *testing.T) {
	for _, n := range someInts() {
		if it := Int(n); it.Kind != 0 || it.N != n || it.S != "" || len(it.List) != 0 {
			t.Errorf("Int(%d) = %v", n, it)
		}
	}
	for _, s := range []string{"", "a", "\x00\xff", oddText(), strings.Repeat("a", 70000)} {
		if it := Text(s); it.Kind != 1 || it.S != s || it.N != 0 || len(it.List) != 0 {
			t.Errorf("Text(%q) = %v", s, it)
		}
	}
	for _, items := range [][]api.Item{nil, {}, {ofInt(0)}, someItems(), notInForm(), times(5000, ofInt(1))} {
		if it := List(items...); it.Kind != 2 || it.N != 0 || it.S != "" || !same(it.List, items) {
			t.Errorf("List of %d items has %d, kind %d", len(items), len(it.List), it.Kind)
		}
	}
	if it := List(Int(1), Text("a"), List(List(), Int(-2))); !same(it.List, []api.Item{ofInt(1), ofText("a"), ofList(ofList(), ofInt(-2))}) {
		t.Errorf("List = %v", it)
	}
	deep := nested(1<<16-1, ofInt(1))
	if it := List(deep); !same(it.List, []api.Item{deep}) {
		t.Error("List of an item within 2^16 - 1 lists isn't that item")
	}
}

func randomItem(r *rand.Rand, depth int) api.Item {
	switch k := r.Intn(5); {
	case k < 2:
		return ofInt(int(r.Uint64()) >> r.Intn(64))
	case k < 4 || depth == 8:
		s := make([]byte, r.Intn(1<<r.Intn(9)))
		r.Read(s)
		return ofText(string(s))
	default:
		return ofList(randomItems(r, r.Intn(6), depth+1)...)
	}
}

func randomItems(r *rand.Rand, n, depth int) []api.Item {
	var items []api.Item
	for range n {
		items = append(items, randomItem(r, depth))
	}
	return items
}

// P3.4: what is encoded is decoded.
func TestEncodedIsDecoded(t *testing.T) {
	r := rand.New(rand.NewSource(1))
	for range 2000 {
		items := randomItems(r, r.Intn(12), 1)
		encoded(t, "random items", items)
		b, _ := Encode(items)
		decoded(t, "random items encoded", b, items)
	}
}

// letter reads to the letter of the chapter, by calls within one another; it says what an item's bytes say, and where they end.
type letter struct {
	b       []byte
	at, met int
}

func (l *letter) num() (uint64, api.Errno) {
	for n := 1; ; n++ {
		if l.at+n > len(l.b) {
			return 0, api.ErrEnd
		}
		x := l.b[l.at+n-1]
		if n > 1 && x == 0 || n == 10 && x != 1 {
			return 0, api.ErrForm
		}
		if x < 128 {
			u, _ := binary.Uvarint(l.b[l.at:])
			l.at += n
			return u, api.OK
		}
	}
}

func (l *letter) item(depth int) (api.Item, api.Errno) {
	l.met++
	if l.met > 4096 || depth > 8 {
		return api.Item{}, api.ErrLong
	}
	if l.at == len(l.b) {
		return api.Item{}, api.ErrEnd
	}
	kind := l.b[l.at]
	if kind > 2 {
		return api.Item{}, api.ErrForm
	}
	l.at++
	from := l.at
	u, e := l.num()
	switch {
	case e != api.OK:
		return api.Item{}, e
	case kind == 0:
		n, _ := binary.Varint(l.b[from:])
		return ofInt(int(n)), api.OK
	case u > math.MaxInt64:
		return api.Item{}, api.ErrForm
	case kind == 1:
		if u > uint64(len(l.b)-l.at) {
			return api.Item{}, api.ErrEnd
		}
		l.at += int(u)
		return ofText(string(l.b[l.at-int(u) : l.at])), api.OK
	}
	list := ofList()
	for range u {
		it, e := l.item(depth + 1)
		if e != api.OK {
			return api.Item{}, e
		}
		list.List = append(list.List, it)
	}
	return list, api.OK
}

func (l *letter) message() ([]api.Item, api.Errno) {
	if len(l.b) > 65536 {
		return nil, api.ErrLong
	}
	var items []api.Item
	for l.at < len(l.b) {
		it, e := l.item(1)
		if e != api.OK {
			return nil, e
		}
		items = append(items, it)
	}
	return items, api.OK
}

// asWritten asks whether Decode says what the chapter's letter says, and, P3.4, whether bytes that are decoded are those that their items are encoded to.
func asWritten(t *testing.T, b []byte) {
	t.Helper()
	l := letter{b: b}
	want, wantE := l.message()
	items, e := Decode(b)
	if e != wantE || !same(items, want) {
		t.Errorf("Decode of %v: %v, %d; want %v, %d", b, items, e, want, wantE)
	}
	if e != api.OK {
		return
	}
	if again, e := Encode(items); e != api.OK || !bytes.Equal(again, b) {
		t.Errorf("Encode of what %v was decoded to: %v, %d", b, again, e)
	}
}

// P3.2, P3.4: all rows of up to six bytes among those that mean something.
func TestShortRows(t *testing.T) {
	some := []byte{0, 1, 2, 3, 4, 127, 128, 129, 255}
	var longer func(b []byte)
	longer = func(b []byte) {
		asWritten(t, b)
		if len(b) == 6 || t.Failed() {
			return
		}
		for _, x := range some {
			longer(append(b, x))
		}
	}
	longer(nil)
	for x := range 1 << 16 {
		asWritten(t, []byte{byte(x), byte(x >> 8)})
	}
}

// P3.2, P3.4: messages with some bytes changed, taken away, put in between, and rows of low bytes.
func TestSpoiltMessages(t *testing.T) {
	r := rand.New(rand.NewSource(2))
	for range 20000 {
		b := byHand(randomItems(r, 1+r.Intn(6), 1)...)
		for range 1 + r.Intn(3) {
			at := r.Intn(len(b))
			switch r.Intn(4) {
			case 0:
				b[at] ^= 1 << r.Intn(8)
			case 1:
				b[at] = byte(r.Intn(4))
			case 2:
				b = slices.Insert(b, at, byte(r.Intn(256)))
			case 3:
				b = append(slices.Delete(b, at, at+1), byte(r.Intn(3)))
			}
		}
		asWritten(t, b)
	}
	for range 20000 {
		b := make([]byte, r.Intn(40))
		for i := range b {
			b[i] = byte(r.Intn(4))
		}
		asWritten(t, b)
	}
	for range 200 {
		b := make([]byte, r.Intn(9000))
		for i := range b {
			b[i] = byte(r.Intn(3))
		}
		asWritten(t, b)
	}
}

// P3.5: neither the items nor the room behind their end, in lists too; that room isn't looked at.
func TestItemsStay(t *testing.T) {
	bad := api.Item{Kind: 9, N: 9, S: "room"}
	withRoom := func(items []api.Item) []api.Item { return append(items, bad, bad)[:len(items)] }
	items := withRoom(someItems())
	inner := withRoom([]api.Item{ofInt(1), ofText("a")})
	items[10] = api.Item{Kind: 2, List: inner}
	was := deepCopy(items)
	encoded(t, "items with room behind", items)
	if it := List(items...); !same(it.List, was) {
		t.Error("List of items with room behind isn't these")
	}
	if !same(items, was) {
		t.Error("the items were changed")
	}
	for _, room := range [][]api.Item{items[len(items):][:2], inner[len(inner):][:2]} {
		if !same(room, []api.Item{bad, bad}) {
			t.Error("the room behind the items was changed")
		}
	}
}

// P3.5: neither the bytes nor those around them; those behind aren't looked at.
func TestBytesStay(t *testing.T) {
	b := byHand(someItems()...)
	room := row(7, 7, b, 0, 2, 0, 4)
	was := slices.Clone(room)
	within := room[2 : 2+len(b)]
	decoded(t, "bytes within others", within, someItems())
	undecoded(t, "a text that would end in the room behind", row(1, 2, "ab")[:3], api.ErrEnd)
	undecoded(t, "a list that would end in the room behind", row(2, 1, 0, 2)[:2], api.ErrEnd)
	if !bytes.Equal(room, was) {
		t.Error("the bytes, or those around them, were changed")
	}
}

// fill writes over bytes and the room behind their end.
func fill(b []byte) {
	b = b[:cap(b)]
	for i := range b {
		b[i] = 0xee
	}
}

// fillItems writes over items, all that are within them, and the room behind their ends.
func fillItems(items []api.Item) {
	items = items[:cap(items)]
	for i := range items {
		fillItems(items[i].List)
		items[i] = api.Item{Kind: 8, N: 8, S: "filled"}
	}
}

// P3.5: what is done to an answer touches neither the argument nor another answer.
func TestAnswersAreNew(t *testing.T) {
	items := someItems()
	first, _ := Encode(items)
	second, _ := Encode(items)
	fill(first)
	if !bytes.Equal(second, byHand(someItems()...)) {
		t.Error("an answer of Encode was changed through another one")
	}

	b := byHand(items...)
	one, _ := Decode(b)
	two, _ := Decode(b)
	fillItems(one)
	if !bytes.Equal(b, byHand(items...)) || !same(two, items) {
		t.Error("the bytes, or another answer of Decode, were changed through an answer")
	}

	inner := ofList(ofInt(1), ofList(ofText("a")))
	handed := []api.Item{inner, inner, ofInt(2)}
	was := deepCopy(handed)
	l, k := List(handed...), List(handed...)
	fillItems(l.List[0].List)
	if !same(l.List[1:], was[1:]) {
		t.Error("two lists of one answer share memory")
	}
	fillItems(l.List)
	if !same(handed, was) || !same(k.List, was) {
		t.Error("what was handed in, or another answer of List, was changed through an answer")
	}
}

// P3.5: no two lists of a decoded message share memory.
func TestDecodedListsAreApart(t *testing.T) {
	items := []api.Item{ofList(ofList(ofInt(1)), ofList(ofInt(2))), ofList(ofInt(3), ofList(ofInt(4), ofInt(5)), ofInt(6))}
	b := byHand(items...)
	got, _ := Decode(b)
	fillItems(got[0].List[0].List)
	fillItems(got[1].List[1].List)
	if !same(got[0].List[1:], items[0].List[1:]) || got[1].List[0].N != 3 || got[1].List[2].N != 6 {
		t.Errorf("a list was changed through another one: %v", got)
	}
	fillItems(got[0].List)
	if got[0].Kind != 2 || got[1].List[0].N != 3 || got[1].List[2].N != 6 {
		t.Errorf("a list was changed through another one: %v", got)
	}
}

// P3.5: nothing that is handed in is kept.
func TestNothingIsKept(t *testing.T) {
	items := someItems()
	b, _ := Encode(items)
	l := List(items...)
	fillItems(items)
	if !bytes.Equal(b, byHand(someItems()...)) || !same(l.List, someItems()) {
		t.Error("an answer shares memory with the items")
	}
	got, _ := Decode(b)
	fill(b)
	if !same(got, someItems()) {
		t.Error("an answer shares memory with the bytes")
	}
}
