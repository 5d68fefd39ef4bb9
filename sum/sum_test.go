package sum_test

import (
	"bytes"
	"hash/adler32"
	"math"
	"testing"

	"platelayer/sum"
)

// sumOf is the sum as the document's words say it, by one remainder a byte.
func sumOf(rows ...[]byte) uint32 {
	low, high := 1, 0
	for _, row := range rows {
		for _, c := range row {
			low = (low + int(c)) % 65521
			high = (high + low) % 65521
		}
	}
	return uint32(high*65536 + low)
}

// mixed tells bytes of all values, by a short rule.
func mixed(many int) []byte {
	b := make([]byte, many)
	state := uint32(many)
	for i := range b {
		state = state*1664525 + 1013904223
		b[i] = byte(state >> 24)
	}
	return b
}

// filled tells bytes that are all the same.
func filled(many int, c byte) []byte { return bytes.Repeat([]byte{c}, many) }

// rising tells bytes that count up, over and over.
func rising(many int) []byte {
	b := make([]byte, many)
	for i := range b {
		b[i] = byte(i)
	}
	return b
}

// greatest tells bytes of whose sum both numbers are 65520: low is brought
// there first, and each 0 behind makes high one less, by its remainder.
func greatest() []byte {
	b := append(filled(256, 255), 239)
	for sumOf(b)>>16 != 65520 {
		less := int(sumOf(b)>>16) + 1
		b = append(b, make([]byte, less)...)
	}
	return b
}

// lengths lie round powers of two, round where low and high pass 65521 for the
// first time, and round where 32 bits no longer hold them without remainders.
var lengths = []int{
	0, 1, 2, 3, 7, 8, 9, 15, 16, 17, 29, 33, 255, 256, 257, 258, 360, 361, 362,
	3854, 3855, 4095, 4096, 4097, 5550, 5551, 5552, 5553, 5554, 5803, 5804,
	11103, 11104, 11105, 16656, 16657, 65519, 65520, 65521, 65522, 65536, 131042,
}

// P3.1

func TestExamples(t *testing.T) {
	for _, c := range []struct {
		bytes string
		want  uint32
	}{
		{"Wikipedia", 300286872},
		{"", 1},
		{"\x00", 0x00010001},
		{"\x01", 0x00020002},
		{"a", 0x00620062},
		{"\xff", 0x01000100},
		{"\x00\x00", 0x00020001},
		{"ab", 0x012600c4},
		{"ba", 0x012700c4},
		{"abc", 0x024d0127},
	} {
		if got := sum.Of([]byte(c.bytes)); got != c.want {
			t.Errorf("Of(%q) = %d, want %d", c.bytes, got, c.want)
		}
	}
}

func TestOfNoBytes(t *testing.T) {
	if got := sum.Of(nil); got != 1 {
		t.Errorf("Of(nil) = %d", got)
	}
	if got := sum.Of([]byte{}); got != 1 {
		t.Errorf("Of of an empty list = %d", got)
	}
}

func TestOfOneByte(t *testing.T) {
	for c := range 256 {
		want := uint32(c+1)*65536 + uint32(c+1)
		if got := sum.Of([]byte{byte(c)}); got != want {
			t.Errorf("Of(%d) = %d, want %d", c, got, want)
		}
	}
}

func TestOfTwoBytes(t *testing.T) {
	for c := range 256 {
		for d := range 256 {
			want := uint32(2*c+d+2)*65536 + uint32(c+d+1)
			if got := sum.Of([]byte{byte(c), byte(d)}); got != want {
				t.Fatalf("Of(%d, %d) = %d, want %d", c, d, got, want)
			}
		}
	}
}

func TestOfEachLength(t *testing.T) {
	for _, many := range lengths {
		for _, b := range [][]byte{filled(many, 0), filled(many, 1), filled(many, 255), rising(many), mixed(many)} {
			want := sumOf(b)
			if got := sum.Of(b); got != want || adler32.Checksum(b) != want {
				t.Errorf("Of %d bytes = %d, want %d", many, got, want)
			}
		}
	}
}

// Of bytes that are all 0 low stays 1, and high counts them; 65521 of them
// have the sum of none.
func TestOfZeros(t *testing.T) {
	zeros := make([]byte, 2*65521+1)
	for _, many := range []int{1, 2, 5552, 5553, 65520, 65521, 65522, 2 * 65521, 2*65521 + 1} {
		want := uint32(many%65521)*65536 + 1
		if got := sum.Of(zeros[:many]); got != want {
			t.Errorf("Of %d zeros = %d, want %d", many, got, want)
		}
	}
}

// low passes 65521 some thousand times, and high some million times.
func TestOfManyBytes(t *testing.T) {
	for _, b := range [][]byte{filled(1<<21, 255), filled(1<<21+77, 254), mixed(1<<21 + 5551)} {
		want := sumOf(b)
		if got := sum.Of(b); got != want {
			t.Errorf("Of %d bytes = %d, want %d", len(b), got, want)
		}
		if got := sum.Add(sum.Of(b), b); got != sumOf(b, b) {
			t.Errorf("Add of %d bytes to themselves = %d", len(b), got)
		}
	}
}

// Both numbers are as great as may be, and then as much as may be is added.
func TestAddToTheGreatest(t *testing.T) {
	ahead := greatest()
	n := sum.Of(ahead)
	if n != 65520*65536+65520 {
		t.Fatalf("the greatest sum = %d, %d", n>>16, n&0xffff)
	}
	for _, many := range lengths {
		for _, c := range []byte{0, 1, 254, 255} {
			b := filled(many, c)
			if got := sum.Add(n, b); got != sumOf(ahead, b) {
				t.Errorf("Add of %d bytes %d = %d", many, c, got)
			}
		}
	}
}

func TestAddOfNoBytes(t *testing.T) {
	for _, many := range lengths {
		b := mixed(many)
		n := sum.Of(b)
		if sum.Add(n, nil) != n || sum.Add(n, []byte{}) != n {
			t.Errorf("Add of no bytes to %d = %d, %d", n, sum.Add(n, nil), sum.Add(n, []byte{}))
		}
		if got := sum.Add(sum.Of(nil), b); got != n {
			t.Errorf("Add to no bytes = %d, want %d", got, n)
		}
	}
}

func TestAddIsInOrder(t *testing.T) {
	wiki, pedia := []byte("Wiki"), []byte("pedia")
	if got := sum.Add(sum.Of(wiki), pedia); got != 300286872 {
		t.Errorf("Wiki, and pedia behind it: %d", got)
	}
	if got := sum.Add(sum.Of(pedia), wiki); got != sumOf(pedia, wiki) || got == 300286872 {
		t.Errorf("pedia, and Wiki behind it: %d", got)
	}
}

// The list is a piece of a greater one: what is round about it counts for
// nothing, and stays.
func TestArgumentsStay(t *testing.T) {
	all := mixed(3 * 5552)
	kept := bytes.Clone(all)
	for _, c := range []struct{ from, to int }{{0, 0}, {5, 5}, {1, 100}, {7, 5559}, {7, 5560}, {1, 3*5552 - 1}} {
		piece := all[c.from:c.to]
		want := sumOf(kept[c.from:c.to])
		for range 2 {
			if got := sum.Of(piece); got != want {
				t.Errorf("Of [%d:%d] = %d, want %d", c.from, c.to, got, want)
			}
			if got := sum.Add(want, piece); got != sumOf(piece, piece) {
				t.Errorf("Add [%d:%d] = %d", c.from, c.to, got)
			}
		}
	}
	if !bytes.Equal(all, kept) {
		t.Error("the bytes were changed")
	}
}

// P3.2

func TestJoinOfNoBytes(t *testing.T) {
	if got := sum.Join(1, 1, 0); got != 1 {
		t.Errorf("Join of none and none = %d", got)
	}
	for _, many := range lengths {
		n := sum.Of(mixed(many))
		if got := sum.Join(n, sum.Of(nil), 0); got != n {
			t.Errorf("Join(%d, none) = %d", n, got)
		}
		if got := sum.Join(sum.Of(nil), n, many); got != n {
			t.Errorf("Join(none, %d, %d) = %d", n, many, got)
		}
	}
}

func TestJoinIsInOrder(t *testing.T) {
	wiki, pedia := sum.Of([]byte("Wiki")), sum.Of([]byte("pedia"))
	if got := sum.Join(wiki, pedia, 5); got != 300286872 {
		t.Errorf("Wiki and pedia: %d", got)
	}
	if got := sum.Join(pedia, wiki, 4); got != sumOf([]byte("pediaWiki")) || got == 300286872 {
		t.Errorf("pedia and Wiki: %d", got)
	}
}

func TestJoinOfOneByteEach(t *testing.T) {
	for c := range 256 {
		for d := range 256 {
			one, other := []byte{byte(c)}, []byte{byte(d)}
			if got := sum.Join(sum.Of(one), sum.Of(other), 1); got != sumOf(one, other) {
				t.Fatalf("Join of %d and %d = %d", c, d, got)
			}
		}
	}
}

func TestJoinOfEachLength(t *testing.T) {
	firsts := [][]byte{nil, {0}, {255}, filled(300, 255), mixed(70000), greatest()}
	for _, many := range lengths {
		for _, other := range [][]byte{filled(many, 0), filled(many, 255), mixed(many)} {
			for _, first := range firsts {
				if got := sum.Join(sum.Of(first), sum.Of(other), many); got != sumOf(first, other) {
					t.Fatalf("Join of %d and %d bytes = %d", len(first), many, got)
				}
			}
		}
	}
}

// Of a first row whose low is 0, high grows less behind it than alone.
func TestJoinBehindALowOfNone(t *testing.T) {
	first := append(filled(256, 255), 240)
	if n := sum.Of(first); n&0xffff != 0 {
		t.Fatalf("low is %d", n&0xffff)
	}
	for _, many := range lengths {
		other := mixed(many)
		if got := sum.Join(sum.Of(first), sum.Of(other), many); got != sumOf(first, other) {
			t.Errorf("Join of %d bytes = %d", many, got)
		}
	}
}

// Rows of zeros are told without being made: of many of them low is 1, and
// high their number by its remainder; behind other bytes each adds low to high.
func TestJoinOfTheLongestRows(t *testing.T) {
	first := []byte("Wikipedia")
	n := sum.Of(first)
	low, high := uint64(n&0xffff), uint64(n>>16)
	for _, many := range []int{65520, 65521, 65522, 1 << 16, 1 << 24, math.MaxInt32 - 1, math.MaxInt32} {
		zeros := uint32(many%65521)*65536 + 1
		want := uint32((high+uint64(many)*low)%65521*65536 + low)
		if got := sum.Join(n, zeros, many); got != want {
			t.Errorf("Join with %d zeros = %d, want %d", many, got, want)
		}
	}
}

func TestJoinOfThreeRows(t *testing.T) {
	a, b, c := mixed(4000), filled(6000, 255), rising(9000)
	want := sumOf(a, b, c)
	if got := sum.Join(sum.Join(sum.Of(a), sum.Of(b), len(b)), sum.Of(c), len(c)); got != want {
		t.Errorf("the first two first: %d, want %d", got, want)
	}
	if got := sum.Join(sum.Of(a), sum.Join(sum.Of(b), sum.Of(c), len(c)), len(b)+len(c)); got != want {
		t.Errorf("the last two first: %d, want %d", got, want)
	}
}

// P3.3

func TestInPartsAndAtOnce(t *testing.T) {
	for _, b := range [][]byte{nil, {9}, mixed(100), filled(600, 255), filled(5600, 255), mixed(11200)} {
		want := sumOf(b)
		for at := range len(b) + 1 {
			first, other := b[:at], b[at:]
			if got := sum.Add(sum.Of(first), other); got != want {
				t.Fatalf("Add, %d bytes parted at %d: %d, want %d", len(b), at, got, want)
			}
			if got := sum.Join(sum.Of(first), sum.Of(other), len(other)); got != want {
				t.Fatalf("Join, %d bytes parted at %d: %d, want %d", len(b), at, got, want)
			}
		}
	}
}

func TestByteByByte(t *testing.T) {
	b := mixed(12000)
	added, joined := sum.Of(nil), sum.Of(nil)
	for i := range b {
		added = sum.Add(added, b[i:i+1])
		joined = sum.Join(joined, sum.Of(b[i:i+1]), 1)
		if i%500 == 0 && (added != sumOf(b[:i+1]) || joined != added) {
			t.Fatalf("%d bytes: %d and %d", i+1, added, joined)
		}
	}
	if want := sum.Of(b); added != want || joined != want {
		t.Errorf("%d and %d, want %d", added, joined, want)
	}
}

func TestOneOtherByteIsAnotherSum(t *testing.T) {
	for _, b := range [][]byte{{0}, {255}, filled(33, 0), filled(33, 255), mixed(33), rising(300)} {
		n := sum.Of(b)
		for at, was := range b {
			for c := range 256 {
				b[at] = byte(c)
				if got := sum.Of(b); (got == n) != (byte(c) == was) || got != sumOf(b) {
					t.Fatalf("%d bytes, %d at %d instead of %d: %d and %d", len(b), c, at, was, got, n)
				}
			}
			b[at] = was
		}
	}
}

func TestOneOtherByteOfMany(t *testing.T) {
	b := mixed(70000)
	n := sum.Of(b)
	for _, at := range []int{0, 1, 5551, 5552, 5553, 11104, 65520, 65521, 69998, 69999} {
		was := b[at]
		for c := range 256 {
			b[at] = byte(c)
			if got := sum.Of(b); (got == n) != (byte(c) == was) {
				t.Fatalf("%d at %d instead of %d: %d and %d", c, at, was, got, n)
			}
		}
		b[at] = was
	}
}

// All pairs of bytes are changed for one another, with bytes round about them.
func TestTwoBytesChangedForOneAnother(t *testing.T) {
	for _, ahead := range []int{0, 1, 20} {
		for _, behind := range []int{0, 1, 20} {
			b := mixed(ahead + 2 + behind)
			for c := range 256 {
				for d := range 256 {
					b[ahead], b[ahead+1] = byte(c), byte(d)
					one := sum.Of(b)
					b[ahead], b[ahead+1] = byte(d), byte(c)
					if other := sum.Of(b); (one == other) != (c == d) {
						t.Fatalf("%d and %d, behind %d bytes: %d and %d", c, d, ahead, one, other)
					}
				}
			}
		}
	}
}

func TestTwoBytesOfMany(t *testing.T) {
	b := mixed(12000)
	n := sum.Of(b)
	for at := range len(b) - 1 {
		b[at], b[at+1] = b[at+1], b[at]
		if got := sum.Of(b); (got == n) != (b[at] == b[at+1]) {
			t.Fatalf("%d and %d at %d: %d and %d", b[at+1], b[at], at, got, n)
		}
		b[at], b[at+1] = b[at+1], b[at]
	}
}

// Nothing is promised of numbers that are no bytes' sums, nor of fewer bytes
// than none, but that no call panics.
func TestNoPanic(t *testing.T) {
	numbers := []uint32{0, 1, 65520, 65521, 65535, 65536, 65521 << 16, 1 << 31, math.MaxUint32}
	for _, n := range numbers {
		_ = sum.Add(n, nil)
		_ = sum.Add(n, filled(11105, 255))
		for _, m := range numbers {
			for _, many := range []int{math.MinInt, -65521, -1, 0, 1, 65521, math.MaxInt} {
				_ = sum.Join(n, m, many)
			}
		}
	}
}
