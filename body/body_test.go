package body_test

import (
	"bytes"
	"encoding/binary"
	"math"
	"testing"

	"platelayer/api"
	"platelayer/body"
	"platelayer/fault"
)

// numbers lie at the edges of each of their four bytes.
var numbers = []uint32{0, 1, 255, 256, 65535, 65536, 16777216, 4294967295}

// others are numbers of which no two bytes are the same, and more edges.
var others = []uint32{2, 127, 128, 257, 258, 0x04030201, 0x01020304, 1<<24 - 1, 1<<31 - 1, 1 << 31, math.MaxUint32 - 1}

var otherLengths = []int{0, 1, 3, 4, 5, 8, 12, 15, 17, 20, 31, 32, 33, 48, 256, 272, 1 << 16, 1<<16 + 16}

// blockOf is a block as the document's words say it, by the library's means.
func blockOf(l [4]uint32) []byte {
	var block []byte
	for _, n := range l {
		block = binary.LittleEndian.AppendUint32(block, n)
	}
	return block
}

// trimOf is a trim's block likewise.
func trimOf(many uint32) []byte {
	return append(binary.LittleEndian.AppendUint32(nil, many), make([]byte, 12)...)
}

// mixed tells bytes of all values, by a short rule.
func mixed(many int, state uint32) []byte {
	b := make([]byte, many)
	for i := range b {
		state = state*1664525 + 1013904223
		b[i] = byte(state >> 24)
	}
	return b
}

func filled(many int, c byte) []byte { return bytes.Repeat([]byte{c}, many) }

// places calls f with all addresses whose numbers are edges.
func places(f func(l body.Places)) {
	for _, a := range numbers {
		for _, b := range numbers {
			for _, c := range numbers {
				for _, d := range numbers {
					f(body.Places{a, b, c, d})
				}
			}
		}
	}
}

func wantOfPlaces(t *testing.T, l body.Places, want []byte) {
	t.Helper()
	if got := body.OfPlaces(l); !bytes.Equal(got, want) {
		t.Fatalf("OfPlaces(%v) = %v, want %v", l, got, want)
	}
}

func wantOfTrim(t *testing.T, many uint32, want []byte) {
	t.Helper()
	if got := body.OfTrim(many); !bytes.Equal(got, want) {
		t.Fatalf("OfTrim(%d) = %v, want %v", many, got, want)
	}
}

func wantPlaces(t *testing.T, block []byte, want body.Places) {
	t.Helper()
	l, err := body.ToPlaces(block)
	if err != nil || l != want {
		t.Fatalf("ToPlaces(%v) = %v, %v, want %v", block, l, err, want)
	}
}

func wantTrim(t *testing.T, block []byte, want uint32) {
	t.Helper()
	many, err := body.ToTrim(block)
	if err != nil || many != want {
		t.Fatalf("ToTrim(%v) = %d, %v, want %d", block, many, err, want)
	}
}

// wantNoPlaces holds what ToPlaces answers against ErrShort, beside which there
// is nothing.
func wantNoPlaces(t *testing.T, block []byte) {
	t.Helper()
	l, err := body.ToPlaces(block)
	if fault.Code(err) != api.ErrShort || !fault.Is(err, api.ErrShort) {
		t.Errorf("ToPlaces(%d bytes): %v", len(block), err)
	}
	if l != (body.Places{}) {
		t.Errorf("ToPlaces(%d bytes): %v beside an error", len(block), l)
	}
}

// wantNoTrim holds what ToTrim answers against an error, beside which there is
// nothing.
func wantNoTrim(t *testing.T, block []byte, want api.Errno) {
	t.Helper()
	many, err := body.ToTrim(block)
	if fault.Code(err) != want || !fault.Is(err, want) {
		t.Errorf("ToTrim(%d bytes, %v): %v, want code %d", len(block), block[:min(len(block), 40)], err, want)
	}
	if many != 0 {
		t.Errorf("ToTrim(%d bytes): %d beside an error", len(block), many)
	}
}

// examples are blocks whose bytes were worked out by hand; the first one is the
// document's.
var examples = []struct {
	places body.Places
	block  []byte
}{
	{body.Places{1, 0, 258, 0}, []byte{1, 0, 0, 0, 0, 0, 0, 0, 2, 1, 0, 0, 0, 0, 0, 0}},
	{body.Places{}, []byte{0, 0, 0, 0, 0, 0, 0, 0, 0, 0, 0, 0, 0, 0, 0, 0}},
	{
		body.Places{0x04030201, 0x08070605, 0x0c0b0a09, 0x100f0e0d},
		[]byte{1, 2, 3, 4, 5, 6, 7, 8, 9, 10, 11, 12, 13, 14, 15, 16},
	},
	{
		body.Places{1, 256, 65536, 16777216},
		[]byte{1, 0, 0, 0, 0, 1, 0, 0, 0, 0, 1, 0, 0, 0, 0, 1},
	},
	{
		body.Places{math.MaxUint32, math.MaxUint32 - 1, 1 << 31, 65535},
		[]byte{255, 255, 255, 255, 254, 255, 255, 255, 0, 0, 0, 128, 255, 255, 0, 0},
	},
}

// trims are trims' blocks likewise.
var trims = []struct {
	many  uint32
	block []byte
}{
	{1, []byte{1, 0, 0, 0, 0, 0, 0, 0, 0, 0, 0, 0, 0, 0, 0, 0}},
	{64, []byte{64, 0, 0, 0, 0, 0, 0, 0, 0, 0, 0, 0, 0, 0, 0, 0}},
	{255, []byte{255, 0, 0, 0, 0, 0, 0, 0, 0, 0, 0, 0, 0, 0, 0, 0}},
	{256, []byte{0, 1, 0, 0, 0, 0, 0, 0, 0, 0, 0, 0, 0, 0, 0, 0}},
	{65535, []byte{255, 255, 0, 0, 0, 0, 0, 0, 0, 0, 0, 0, 0, 0, 0, 0}},
	{65536, []byte{0, 0, 1, 0, 0, 0, 0, 0, 0, 0, 0, 0, 0, 0, 0, 0}},
	{16777216, []byte{0, 0, 0, 1, 0, 0, 0, 0, 0, 0, 0, 0, 0, 0, 0, 0}},
	{0x04030201, []byte{1, 2, 3, 4, 0, 0, 0, 0, 0, 0, 0, 0, 0, 0, 0, 0}},
	{4294967295, []byte{255, 255, 255, 255, 0, 0, 0, 0, 0, 0, 0, 0, 0, 0, 0, 0}},
}

// P5.1

func TestOfPlacesOfExamples(t *testing.T) {
	for _, c := range examples {
		wantOfPlaces(t, c.places, c.block)
	}
}

func TestOfTrimOfExamples(t *testing.T) {
	for _, c := range trims {
		wantOfTrim(t, c.many, c.block)
	}
}

func TestOfPlacesOfEachNumberInEachPlace(t *testing.T) {
	for place := range api.Each {
		for _, n := range append(others, numbers...) {
			for _, around := range []uint32{0, 9, math.MaxUint32} {
				l := body.Places{around, around, around, around}
				l[place] = n
				wantOfPlaces(t, l, blockOf(l))
			}
		}
	}
	places(func(l body.Places) { wantOfPlaces(t, l, blockOf(l)) })
}

// Each byte of each address has a place of its own in the block.
func TestOfPlacesOfEachByte(t *testing.T) {
	for place := range api.Each {
		for at := range 4 {
			for c := range 256 {
				var l body.Places
				l[place] = uint32(c) << (8 * at)
				want := make([]byte, 16)
				want[4*place+at] = byte(c)
				wantOfPlaces(t, l, want)
			}
		}
	}
}

func TestOfTrimOfEachNumber(t *testing.T) {
	for _, many := range append(others, numbers...) {
		wantOfTrim(t, many, trimOf(many))
	}
	for many := range uint32(1 << 17) {
		wantOfTrim(t, many, trimOf(many))
	}
}

// A trim of none has a block too, though nothing comes back from it.
func TestOfTrimOfNone(t *testing.T) {
	wantOfTrim(t, 0, make([]byte, 16))
}

func TestSizes(t *testing.T) {
	if len(body.Places{}) != 4 || api.Block != 16 {
		t.Fatalf("%d addresses, %d bytes", len(body.Places{}), api.Block)
	}
	for _, n := range numbers {
		if many := len(body.OfPlaces(body.Places{n, n, n, n})); many != 16 {
			t.Errorf("OfPlaces of %d: %d bytes", n, many)
		}
		if many := len(body.OfTrim(n)); many != 16 {
			t.Errorf("OfTrim(%d): %d bytes", n, many)
		}
	}
}

// P5.2

func TestToPlacesOfExamples(t *testing.T) {
	for _, c := range examples {
		wantPlaces(t, c.block, c.places)
	}
}

func TestToTrimOfExamples(t *testing.T) {
	for _, c := range trims {
		wantTrim(t, c.block, c.many)
	}
}

func TestToPlacesOfEachNumberInEachPlace(t *testing.T) {
	for place := range api.Each {
		for _, n := range append(others, numbers...) {
			for _, around := range []uint32{0, 9, math.MaxUint32} {
				l := body.Places{around, around, around, around}
				l[place] = n
				wantPlaces(t, blockOf(l), l)
			}
		}
	}
	places(func(l body.Places) { wantPlaces(t, blockOf(l), l) })
}

func TestToPlacesOfEachByte(t *testing.T) {
	for at := range api.Block {
		for c := range 256 {
			block := make([]byte, 16)
			block[at] = byte(c)
			var want body.Places
			want[at/4] = uint32(c) << (8 * (at % 4))
			wantPlaces(t, block, want)
		}
	}
}

func TestToTrimOfEachNumber(t *testing.T) {
	for _, many := range append(others, numbers...) {
		if many > 0 {
			wantTrim(t, trimOf(many), many)
		}
	}
	for many := uint32(1); many < 1<<17; many++ {
		wantTrim(t, trimOf(many), many)
	}
}

func TestOfOtherLengths(t *testing.T) {
	wantNoPlaces(t, nil)
	wantNoTrim(t, nil, api.ErrShort)
	for _, many := range otherLengths {
		for _, block := range [][]byte{make([]byte, many), filled(many, 1), filled(many, 255), mixed(many, 1)} {
			wantNoPlaces(t, block)
			wantNoTrim(t, block, api.ErrShort)
		}
	}
	for many := range 100 {
		if many != 16 {
			wantNoPlaces(t, make([]byte, many))
			wantNoTrim(t, make([]byte, many), api.ErrShort)
		}
	}
}

// Blocks that are right but for one byte that is gone, or one that is too many.
func TestOfOneByteLessAndOneMore(t *testing.T) {
	for _, c := range examples {
		wantNoPlaces(t, c.block[:15])
		wantNoPlaces(t, append(bytes.Clone(c.block), 0))
	}
	for _, c := range trims {
		wantNoTrim(t, c.block[:15], api.ErrShort)
		wantNoTrim(t, append(bytes.Clone(c.block), 0), api.ErrShort)
	}
}

// How much room is behind a block counts for nothing.
func TestOfBlocksWithRoomBehind(t *testing.T) {
	all := mixed(48, 2)
	copy(all[16:32], trimOf(258))
	wantNoPlaces(t, all[:15])
	wantNoPlaces(t, all[:0])
	wantNoTrim(t, all[16:31], api.ErrShort)
	wantNoTrim(t, all[16:16], api.ErrShort)
	wantPlaces(t, all[16:32], body.Places{258, 0, 0, 0})
	wantTrim(t, all[16:32], 258)
}

func TestToTrimOfNone(t *testing.T) {
	wantNoTrim(t, make([]byte, 16), api.ErrForm)
	for at := 4; at < api.Block; at++ {
		for _, c := range []byte{1, 2, 127, 128, 255} {
			block := make([]byte, 16)
			block[at] = c
			wantNoTrim(t, block, api.ErrForm)
		}
	}
	wantNoTrim(t, append(make([]byte, 4), filled(12, 255)...), api.ErrForm)
	wantNoTrim(t, append(make([]byte, 4), mixed(12, 3)...), api.ErrForm)
}

func TestToTrimOfSomethingBehind(t *testing.T) {
	for _, many := range append(others, numbers...) {
		for at := 4; at < api.Block; at++ {
			for c := 1; c < 256; c++ {
				block := trimOf(many)
				block[at] = byte(c)
				wantNoTrim(t, block, api.ErrForm)
			}
		}
		wantNoTrim(t, append(trimOf(many)[:4], filled(12, 255)...), api.ErrForm)
		wantNoTrim(t, append(trimOf(many)[:4], filled(12, 1)...), api.ErrForm)
	}
}

// Two bytes behind, that by their sum or their bits would be none.
func TestToTrimOfTwoBytesBehind(t *testing.T) {
	for at := 4; at < api.Block; at++ {
		for other := at + 1; other < api.Block; other++ {
			for _, c := range []byte{1, 128, 255} {
				block := trimOf(7)
				block[at], block[other] = c, -c
				wantNoTrim(t, block, api.ErrForm)
				block[other] = c
				wantNoTrim(t, block, api.ErrForm)
			}
		}
	}
}

// A block of another length is told as such, whatever else is wrong about it:
// no number, something behind the first four bytes, or both.
func TestToTrimOfBothErrors(t *testing.T) {
	for _, many := range otherLengths {
		block := make([]byte, many)
		wantNoTrim(t, block, api.ErrShort)
		for _, at := range []int{4, 7, 14, 15, 16, 31} {
			if at < many {
				block[at] = 1
				wantNoTrim(t, block, api.ErrShort)
				block[0] = 1
				wantNoTrim(t, block, api.ErrShort)
				block[0], block[at] = 0, 0
			}
		}
	}
}

// P5.3

func TestPlacesComeBack(t *testing.T) {
	places(func(l body.Places) { wantPlaces(t, body.OfPlaces(l), l) })
	for i := range uint32(20000) {
		l := body.Places{i, i * 2654435761, ^i, i*40503 + 1<<31}
		wantPlaces(t, body.OfPlaces(l), l)
	}
}

func TestBlocksComeBackFromTheirPlaces(t *testing.T) {
	for i := range 20000 {
		block := mixed(16, uint32(i))
		l, err := body.ToPlaces(block)
		if err != nil {
			t.Fatalf("ToPlaces(%v): %v", block, err)
		}
		wantOfPlaces(t, l, block)
	}
}

func TestTrimsComeBack(t *testing.T) {
	wantNoTrim(t, body.OfTrim(0), api.ErrForm)
	for _, many := range append(others, numbers...) {
		if many > 0 {
			wantTrim(t, body.OfTrim(many), many)
		}
	}
	for i := range uint32(1 << 17) {
		if many := i * 2654435761; many > 0 {
			wantTrim(t, body.OfTrim(many), many)
		}
	}
}

// Any block is a trim's that has a number ahead and nothing behind, and it
// comes back then.
func TestBlocksComeBackFromTheirTrims(t *testing.T) {
	for i := range 20000 {
		block := mixed(16, uint32(i))
		clear(block[4+i%13:])
		if i%7 == 0 {
			clear(block[:4])
		}
		if bytes.Equal(block[:4], make([]byte, 4)) || !bytes.Equal(block[4:], make([]byte, 12)) {
			wantNoTrim(t, block, api.ErrForm)
			continue
		}
		many, err := body.ToTrim(block)
		if err != nil {
			t.Fatalf("ToTrim(%v): %v", block, err)
		}
		wantOfTrim(t, many, block)
	}
}

func TestOneOtherByteIsAnotherAnswer(t *testing.T) {
	for _, c := range examples {
		for at := range c.block {
			turned := bytes.Clone(c.block)
			turned[at] ^= 64
			if l, err := body.ToPlaces(turned); err != nil || l == c.places {
				t.Errorf("ToPlaces(%v) = %v, %v", turned, l, err)
			}
		}
	}
}

// A trim's block is a map page's too: what it is of tells the page's Kind alone.
func TestTrimsArePlaces(t *testing.T) {
	for _, many := range append(others, numbers...) {
		wantPlaces(t, body.OfTrim(many), body.Places{many, 0, 0, 0})
		wantOfPlaces(t, body.Places{many, 0, 0, 0}, body.OfTrim(many))
	}
}

// What rules hold everywhere: arguments stay, and answers share nothing with
// them, nor with one another.

func TestOfPlacesSharesNothing(t *testing.T) {
	l := body.Places{1, 256, 0x04030201, math.MaxUint32}
	was, want := l, blockOf(l)
	one, other := body.OfPlaces(l), body.OfPlaces(l)
	l = body.Places{5, 6, 7, 8}
	if !bytes.Equal(one, want) {
		t.Errorf("the addresses were changed, and so was the block: %v", one)
	}
	l = was
	clear(one)
	_ = append(one[:8], filled(100, 1)...)
	if l != was || !bytes.Equal(other, want) {
		t.Errorf("a block was changed, and so were others: %v, %v", l, other)
	}
	wantOfPlaces(t, l, want)
}

func TestOfTrimSharesNothing(t *testing.T) {
	for _, many := range numbers {
		one, other := body.OfTrim(many), body.OfTrim(many)
		for i := range one {
			one[i]++
		}
		_ = append(one[:8], filled(100, 1)...)
		if !bytes.Equal(other, trimOf(many)) {
			t.Errorf("a block of %d was changed, and so was another one: %v", many, other)
		}
		wantOfTrim(t, many, trimOf(many))
	}
}

func TestToPlacesSharesNothing(t *testing.T) {
	want := body.Places{0x04030201, 0, 258, math.MaxUint32}
	around := append(append(mixed(16, 4), blockOf(want)...), mixed(16, 5)...)
	was := bytes.Clone(around)
	block := around[16:32]
	one, err := body.ToPlaces(block)
	other, errOther := body.ToPlaces(block)
	if err != nil || errOther != nil || !bytes.Equal(around, was) {
		t.Fatalf("%v, %v, %v instead of %v", err, errOther, around, was)
	}
	for i := range block {
		block[i]++
	}
	if one != want {
		t.Errorf("the block was changed, and so were the addresses: %v", one)
	}
	copy(around, was)
	for i := range one {
		one[i]++
	}
	if !bytes.Equal(around, was) || other != want {
		t.Errorf("addresses were changed, and so were others: %v, %v", around, other)
	}
	wantPlaces(t, block, want)
}

func TestToTrimLeavesItsArgument(t *testing.T) {
	around := append(append(mixed(16, 6), trimOf(0x04030201)...), mixed(16, 7)...)
	was := bytes.Clone(around)
	block := around[16:32]
	for range 2 {
		wantTrim(t, block, 0x04030201)
		if !bytes.Equal(around, was) {
			t.Fatalf("%v instead of %v", around, was)
		}
	}
}

// Beside an error arguments stay too.
func TestArgumentsStayBesideErrors(t *testing.T) {
	all := mixed(40, 8)
	was := bytes.Clone(all)
	for many := range len(all) + 1 {
		_, _ = body.ToPlaces(all[:many])
		_, _ = body.ToTrim(all[:many])
	}
	if !bytes.Equal(all, was) {
		t.Error("the bytes were changed")
	}
}

// Nothing is kept from call to call: an error ahead changes no answer.
func TestNothingIsKept(t *testing.T) {
	for range 3 {
		for _, c := range examples {
			_, _ = body.ToPlaces(filled(15, 9))
			wantPlaces(t, c.block, c.places)
			_ = body.OfPlaces(body.Places{9, 9, 9, 9})
			wantOfPlaces(t, c.places, c.block)
		}
		for _, c := range trims {
			_, _ = body.ToTrim(filled(16, 9))
			wantTrim(t, c.block, c.many)
			_ = body.OfTrim(math.MaxUint32)
			wantOfTrim(t, c.many, c.block)
		}
	}
}
