package ckpt_test

import (
	"bytes"
	"encoding/binary"
	"hash/adler32"
	"math"
	"slices"
	"testing"

	"platelayer/api"
	"platelayer/ckpt"
	"platelayer/fault"
	"platelayer/geo"
)

// edges lie at the edges of each of a number's four bytes.
var edges = []uint32{0, 1, 127, 128, 255, 256, 257, 65535, 65536, 1 << 24, 0x04030201, 1<<31 - 1, 1 << 31, math.MaxUint32 - 1, math.MaxUint32}

// tablesOf is how many map pages tell so many blocks, by the document's words.
func tablesOf(blocks int) int { return (blocks + 3) / 4 }

// mayBe tells whether a geometry may be, by the document's words.
func mayBe(g geo.Geo) bool {
	if g.Zones < 11 || g.Zones > 24 || g.Pages < 4 || g.Pages > 16 || g.Blocks < 1 || g.Blocks > 64 {
		return false
	}
	tables := tablesOf(g.Blocks)
	return tables <= g.Pages && g.Blocks+tables <= (g.Zones-7)*g.Pages/2
}

// geometries calls f with all geometries that may be.
func geometries(f func(g geo.Geo)) {
	for zones := 11; zones <= 24; zones++ {
		for pages := 4; pages <= 16; pages++ {
			for blocks := 1; blocks <= 64; blocks++ {
				if g := (geo.Geo{Zones: zones, Pages: pages, Blocks: blocks}); mayBe(g) {
					f(g)
				}
			}
		}
	}
}

// some are geometries of each number of blocks that a checkpoint may have, at
// its first and last number of tables.
var some = []geo.Geo{
	{Zones: 11, Pages: 4, Blocks: 1}, {Zones: 11, Pages: 4, Blocks: 4}, {Zones: 11, Pages: 4, Blocks: 6},
	{Zones: 24, Pages: 4, Blocks: 16}, {Zones: 24, Pages: 16, Blocks: 20}, {Zones: 24, Pages: 16, Blocks: 21},
	{Zones: 20, Pages: 9, Blocks: 36}, {Zones: 24, Pages: 16, Blocks: 37}, {Zones: 23, Pages: 13, Blocks: 52},
	{Zones: 24, Pages: 16, Blocks: 53}, {Zones: 24, Pages: 16, Blocks: 60}, {Zones: 24, Pages: 16, Blocks: 64},
}

// mixed tells numbers of all sizes, by a short rule.
func mixed(many int, state uint32) []uint32 {
	l := make([]uint32, many)
	for i := range l {
		state = state*1664525 + 1013904223
		l[i] = state
	}
	return l
}

// filled is a directory of one address alone.
func filled(many int, a uint32) []uint32 { return slices.Repeat([]uint32{a}, many) }

// checkOf is some checkpoint of a geometry.
func checkOf(g geo.Geo) ckpt.Check {
	return ckpt.Check{Number: 7, Session: 258, Seq: 0x0c0b0a09, Geo: g, Dir: mixed(tablesOf(g.Blocks), uint32(g.Blocks))}
}

// plain tells the bytes of a checkpoint that the sum is taken of.
func plain(c ckpt.Check) []byte {
	l := []uint32{c.Number, c.Session, c.Seq, uint32(c.Geo.Zones), uint32(c.Geo.Pages), uint32(c.Geo.Blocks)}
	var b []byte
	for _, n := range append(l, c.Dir...) {
		b = binary.LittleEndian.AppendUint32(b, n)
	}
	return b
}

// sealed adds the sum, by the library's means.
func sealed(b []byte) []byte {
	return binary.LittleEndian.AppendUint32(bytes.Clone(b), adler32.Checksum(b))
}

// cut cuts bytes into blocks, the last one with 0 behind.
func cut(b []byte) [][]byte {
	b = append(bytes.Clone(b), make([]byte, (16-len(b)%16)%16)...)
	var l [][]byte
	for len(b) > 0 {
		l = append(l, bytes.Clone(b[:16]))
		b = b[16:]
	}
	return l
}

// blocksOf are a checkpoint's blocks, as the document's words say them; it asks
// nothing of the geometry or the directory.
func blocksOf(c ckpt.Check) [][]byte { return cut(sealed(plain(c))) }

// lastOf is where the sum is, of a checkpoint of so many blocks.
func lastOf(blocks int) int { return 24 + 4*tablesOf(blocks) }

func clone(l [][]byte) [][]byte {
	var to [][]byte
	for _, block := range l {
		to = append(to, bytes.Clone(block))
	}
	return to
}

func equal(a, b [][]byte) bool { return slices.EqualFunc(a, b, bytes.Equal) }

// alike holds two checkpoints against each other without the package's help.
func alike(a, b ckpt.Check) bool {
	return a.Number == b.Number && a.Session == b.Session && a.Seq == b.Seq && a.Geo == b.Geo && slices.Equal(a.Dir, b.Dir)
}

// isNone tells whether a checkpoint is the zero value.
func isNone(c ckpt.Check) bool { return alike(c, ckpt.Check{}) }

func wantBlocks(t *testing.T, c ckpt.Check, want [][]byte) {
	t.Helper()
	l, err := ckpt.Blocks(c)
	if err != nil || !equal(l, want) {
		t.Fatalf("Blocks(%v) = %v, %v, want %v", c, l, err, want)
	}
}

// wantNoBlocks holds a checkpoint that may not be against what is told of it.
func wantNoBlocks(t *testing.T, c ckpt.Check) {
	t.Helper()
	if ckpt.Right(c) {
		t.Errorf("Right(%v)", c)
	}
	l, err := ckpt.Blocks(c)
	if fault.Code(err) != api.ErrArg || !fault.Is(err, api.ErrArg) || len(l) != 0 {
		t.Errorf("Blocks(%v) = %v, %v", c, l, err)
	}
}

func wantRead(t *testing.T, l [][]byte, want ckpt.Check) {
	t.Helper()
	c, err := ckpt.Read(l)
	if err != nil || !alike(c, want) {
		t.Fatalf("Read(%v) = %v, %v, want %v", l, c, err, want)
	}
}

// wantNoRead holds what Read answers against an error, beside which there is
// nothing.
func wantNoRead(t *testing.T, l [][]byte, want api.Errno) {
	t.Helper()
	c, err := ckpt.Read(l)
	if fault.Code(err) != want || !fault.Is(err, want) {
		t.Fatalf("Read(%v): %v, want code %d", l[:min(len(l), 8)], err, want)
	}
	if !isNone(c) {
		t.Fatalf("Read(%v): %v beside an error", l[:min(len(l), 8)], c)
	}
}

// codeOf tells the error of any blocks, by the document's words; OK of none.
func codeOf(l [][]byte) api.Errno {
	if len(l) < 2 || slices.ContainsFunc(l, func(block []byte) bool { return len(block) != 16 }) {
		return api.ErrShort
	}
	b := bytes.Join(l, nil)
	number := func(at int) int { return int(binary.LittleEndian.Uint32(b[at:])) }
	g := geo.Geo{Zones: number(12), Pages: number(16), Blocks: number(20)}
	if !mayBe(g) {
		return api.ErrForm
	}
	last := lastOf(g.Blocks)
	if len(b) != (last+4+15)/16*16 {
		return api.ErrShort
	}
	if uint32(number(last)) != adler32.Checksum(b[:last]) {
		return api.ErrSum
	}
	if len(bytes.Trim(b[last+4:], "\x00")) > 0 {
		return api.ErrForm
	}
	return api.OK
}

// examples are checkpoints whose bytes were worked out by other means; the
// first one is of the chapter's blocks.
var examples = []struct {
	check  ckpt.Check
	blocks [][]byte
}{
	{
		ckpt.Check{Number: 1, Session: 2, Seq: 258, Geo: geo.Geo{Zones: 11, Pages: 4, Blocks: 6}, Dir: []uint32{5, 0}},
		[][]byte{
			{1, 0, 0, 0, 2, 0, 0, 0, 2, 1, 0, 0, 11, 0, 0, 0},
			{4, 0, 0, 0, 6, 0, 0, 0, 5, 0, 0, 0, 0, 0, 0, 0},
			{33, 0, 75, 2, 0, 0, 0, 0, 0, 0, 0, 0, 0, 0, 0, 0},
		},
	},
	{
		ckpt.Check{Geo: geo.Geo{Zones: 11, Pages: 4, Blocks: 1}, Dir: []uint32{0}},
		[][]byte{
			{0, 0, 0, 0, 0, 0, 0, 0, 0, 0, 0, 0, 11, 0, 0, 0},
			{4, 0, 0, 0, 1, 0, 0, 0, 0, 0, 0, 0, 17, 0, 4, 1},
		},
	},
	{
		ckpt.Check{Number: 0x04030201, Session: 0x08070605, Seq: 0x0c0b0a09, Geo: geo.Geo{Zones: 24, Pages: 16, Blocks: 20}, Dir: []uint32{1, 256, 65536, 1 << 24, math.MaxUint32}},
		[][]byte{
			{1, 2, 3, 4, 5, 6, 7, 8, 9, 10, 11, 12, 24, 0, 0, 0},
			{16, 0, 0, 0, 20, 0, 0, 0, 1, 0, 0, 0, 0, 1, 0, 0},
			{0, 0, 1, 0, 0, 0, 0, 1, 255, 255, 255, 255, 139, 4, 32, 28},
		},
	},
}

// P6.1

// TestExamples holds the examples' own sums against the library's, so that no
// example is wrong in the same way as the package.
func TestExamples(t *testing.T) {
	for _, e := range examples {
		if want := blocksOf(e.check); !equal(e.blocks, want) {
			t.Errorf("%v: %v, want %v", e.check, e.blocks, want)
		}
		wantBlocks(t, e.check, e.blocks)
		wantRead(t, e.blocks, e.check)
	}
}

// TestMany holds Many against a table written by hand: of so many blocks the
// first checkpoint that has one block more.
func TestMany(t *testing.T) {
	first := map[int]int{1: 2, 5: 3, 21: 4, 37: 5, 53: 6}
	want := 0
	for blocks := 1; blocks <= api.MostBlocks; blocks++ {
		if many := first[blocks]; many > 0 {
			want = many
		}
		if got := ckpt.Many(blocks); got != want {
			t.Errorf("Many(%d) = %d, want %d", blocks, got, want)
		}
		bytes := 4 * (6 + tablesOf(blocks) + 1)
		if got := ckpt.Many(blocks); got*16 < bytes || got*16 >= bytes+16 {
			t.Errorf("Many(%d) = %d, of %d bytes", blocks, got, bytes)
		}
	}
	if ckpt.Many(6) != 3 {
		t.Error("the chapter's example")
	}
}

// Many isn't spoken of at other numbers, but it ends.
func TestManyEnds(t *testing.T) {
	for _, blocks := range []int{math.MinInt, -5, -1, 0, 65, 1 << 20, math.MaxInt} {
		_ = ckpt.Many(blocks)
	}
}

func TestRightOfAllThatMayBe(t *testing.T) {
	many := 0
	geometries(func(g geo.Geo) {
		many++
		c := checkOf(g)
		if !ckpt.Right(c) {
			t.Fatalf("Right(%v)", c)
		}
		wantBlocks(t, c, blocksOf(c))
		if len(blocksOf(c)) != ckpt.Many(g.Blocks) {
			t.Fatalf("Many(%d) = %d", g.Blocks, ckpt.Many(g.Blocks))
		}
	})
	if many < 1000 {
		t.Errorf("%d geometries", many)
	}
}

// Geometries all around those that may be, each with as many addresses as its
// blocks would have.
func TestRightAroundAllThatMayBe(t *testing.T) {
	for zones := 9; zones <= 26; zones++ {
		for pages := 2; pages <= 18; pages++ {
			for blocks := -1; blocks <= 66; blocks++ {
				g := geo.Geo{Zones: zones, Pages: pages, Blocks: blocks}
				c := ckpt.Check{Geo: g, Dir: filled(tablesOf(max(blocks, 0)), 1)}
				if got := ckpt.Right(c); got != mayBe(g) {
					t.Fatalf("Right(%v) = %v", c, got)
				}
				if !mayBe(g) {
					wantNoBlocks(t, c)
				}
			}
		}
	}
}

// far are numbers of which no zones, pages or blocks may be.
var far = []int{math.MinInt, math.MinInt32, -65536, -24, -1, 0, 65, 255, 256, 65536, math.MaxInt32, 1 << 32, 1<<32 + 11, math.MaxInt}

func TestRightOfFarGeometries(t *testing.T) {
	for _, g := range some {
		for _, n := range far {
			for _, other := range []geo.Geo{
				{Zones: n, Pages: g.Pages, Blocks: g.Blocks},
				{Zones: g.Zones, Pages: n, Blocks: g.Blocks},
				{Zones: g.Zones, Pages: g.Pages, Blocks: n},
				{Zones: n, Pages: n, Blocks: n},
			} {
				wantNoBlocks(t, ckpt.Check{Geo: other, Dir: filled(tablesOf(g.Blocks), 1)})
				wantNoBlocks(t, ckpt.Check{Geo: other})
			}
		}
	}
	wantNoBlocks(t, ckpt.Check{})
	wantNoBlocks(t, ckpt.Check{Dir: []uint32{1}})
}

// A number that comes to one that may be, when its upper half is lost, is
// another number yet.
func TestRightOfNumbersWithAnUpperHalf(t *testing.T) {
	for _, g := range some {
		for _, more := range []int{1 << 32, -1 << 32, 1 << 40} {
			dir := filled(tablesOf(g.Blocks), 1)
			wantNoBlocks(t, ckpt.Check{Geo: geo.Geo{Zones: g.Zones + more, Pages: g.Pages, Blocks: g.Blocks}, Dir: dir})
			wantNoBlocks(t, ckpt.Check{Geo: geo.Geo{Zones: g.Zones, Pages: g.Pages + more, Blocks: g.Blocks}, Dir: dir})
			wantNoBlocks(t, ckpt.Check{Geo: geo.Geo{Zones: g.Zones, Pages: g.Pages, Blocks: g.Blocks + more}, Dir: dir})
		}
	}
}

func TestRightOfOtherDirectories(t *testing.T) {
	geometries(func(g geo.Geo) {
		tables := tablesOf(g.Blocks)
		for _, many := range []int{0, 1, tables - 1, tables, tables + 1, g.Blocks, 2 * tables, 16, 17, 64} {
			c := ckpt.Check{Geo: g, Dir: filled(many, 3)}
			if many != tables {
				wantNoBlocks(t, c)
			} else if !ckpt.Right(c) {
				t.Errorf("Right(%v)", c)
			}
		}
		wantNoBlocks(t, ckpt.Check{Geo: g})
		wantNoBlocks(t, ckpt.Check{Geo: g, Dir: []uint32{}})
	})
	wantNoBlocks(t, ckpt.Check{Geo: some[0], Dir: make([]uint32, 1<<20)})
}

// What room a directory has behind its end is none of it.
func TestRightOfADirectoryWithRoomBehind(t *testing.T) {
	g := geo.Geo{Zones: 11, Pages: 4, Blocks: 6}
	room := []uint32{8, 9, 10, 11}
	wantNoBlocks(t, ckpt.Check{Geo: g, Dir: room[:1]})
	c := ckpt.Check{Geo: g, Dir: room[:2]}
	wantBlocks(t, c, blocksOf(ckpt.Check{Geo: g, Dir: []uint32{8, 9}}))
	if !slices.Equal(room, []uint32{8, 9, 10, 11}) {
		t.Errorf("%v", room)
	}
}

// numbered calls f with checkpoints of which each number, in turn, is each
// edge.
func numbered(g geo.Geo, f func(c ckpt.Check)) {
	for _, n := range edges {
		for _, around := range []uint32{0, 9, math.MaxUint32} {
			tables := tablesOf(g.Blocks)
			base := ckpt.Check{Number: around, Session: around, Seq: around, Geo: g, Dir: filled(tables, around)}
			for part := range 3 + tables {
				c := base
				c.Dir = slices.Clone(base.Dir)
				switch part {
				case 0:
					c.Number = n
				case 1:
					c.Session = n
				case 2:
					c.Seq = n
				default:
					c.Dir[part-3] = n
				}
				f(c)
			}
		}
	}
}

func TestBlocksOfEachNumber(t *testing.T) {
	for _, g := range some {
		numbered(g, func(c ckpt.Check) {
			if !ckpt.Right(c) {
				t.Fatalf("Right(%v)", c)
			}
			wantBlocks(t, c, blocksOf(c))
		})
	}
}

// Each byte of each number has a place of its own.
func TestBlocksOfEachByte(t *testing.T) {
	g := geo.Geo{Zones: 24, Pages: 16, Blocks: 64}
	for at := range 12 + 64 {
		c := ckpt.Check{Geo: g, Dir: make([]uint32, 16)}
		n := uint32(0xa5) << (8 * (at % 4))
		place := at
		switch at / 4 {
		case 0:
			c.Number = n
		case 1:
			c.Session = n
		case 2:
			c.Seq = n
		default:
			c.Dir[at/4-3] = n
			place += 12
		}
		l, err := ckpt.Blocks(c)
		b := bytes.Join(l, nil)
		if err != nil || b[place] != 0xa5 {
			t.Errorf("byte %d: %v, %v", at, b, err)
		}
		if many := bytes.Count(b[:lastOf(64)], []byte{0xa5}); many != 1 {
			t.Errorf("byte %d is %d times in %v", at, many, b)
		}
	}
}

// others are checkpoints that are another than c in one part alone.
func others(c ckpt.Check) []ckpt.Check {
	var l []ckpt.Check
	add := func(f func(c *ckpt.Check)) {
		other := c
		other.Dir = slices.Clone(c.Dir)
		f(&other)
		l = append(l, other)
	}
	for _, turn := range []uint32{1, 1 << 8, 1 << 16, 1 << 31, math.MaxUint32} {
		add(func(c *ckpt.Check) { c.Number ^= turn })
		add(func(c *ckpt.Check) { c.Session ^= turn })
		add(func(c *ckpt.Check) { c.Seq ^= turn })
		for i := range c.Dir {
			add(func(c *ckpt.Check) { c.Dir[i] ^= turn })
		}
	}
	for _, more := range []int{-1, 1, 1 << 32, -1 << 32} {
		add(func(c *ckpt.Check) { c.Geo.Zones += more })
		add(func(c *ckpt.Check) { c.Geo.Pages += more })
		add(func(c *ckpt.Check) { c.Geo.Blocks += more })
	}
	add(func(c *ckpt.Check) { c.Dir = append(c.Dir, 0) })
	add(func(c *ckpt.Check) { c.Dir = append([]uint32{0}, c.Dir...) })
	if len(c.Dir) > 0 {
		add(func(c *ckpt.Check) { c.Dir = nil })
		add(func(c *ckpt.Check) { c.Dir = c.Dir[:len(c.Dir)-1] })
	}
	return l
}

func wantSame(t *testing.T, a, b ckpt.Check, want bool) {
	t.Helper()
	if got := ckpt.Same(a, b); got != want {
		t.Errorf("Same(%v, %v) = %v", a, b, got)
	}
	if got := ckpt.Same(b, a); got != want {
		t.Errorf("Same(%v, %v) = %v", b, a, got)
	}
}

func TestSame(t *testing.T) {
	all := []ckpt.Check{{}, {Dir: []uint32{0, 0}}, {Number: 1, Geo: geo.Geo{Zones: -1, Pages: 99, Blocks: -7}, Dir: []uint32{1}}}
	for _, g := range some {
		all = append(all, checkOf(g), ckpt.Check{Geo: g, Dir: make([]uint32, tablesOf(g.Blocks))})
	}
	for _, c := range all {
		wantSame(t, c, c, true)
		twin := c
		twin.Dir = slices.Clone(c.Dir)
		wantSame(t, c, twin, true)
		for _, other := range others(c) {
			wantSame(t, c, other, false)
			wantSame(t, other, other, true)
		}
	}
	for i := range all {
		for j := range all {
			wantSame(t, all[i], all[j], i == j)
		}
	}
}

// Numbers that are changed for one another are others.
func TestSameOfChangedPlaces(t *testing.T) {
	g := geo.Geo{Zones: 11, Pages: 12, Blocks: 12}
	a := ckpt.Check{Number: 1, Session: 2, Seq: 3, Geo: g, Dir: []uint32{4, 5, 6}}
	wantSame(t, a, ckpt.Check{Number: 2, Session: 1, Seq: 3, Geo: g, Dir: []uint32{4, 5, 6}}, false)
	wantSame(t, a, ckpt.Check{Number: 1, Session: 3, Seq: 2, Geo: g, Dir: []uint32{4, 5, 6}}, false)
	wantSame(t, a, ckpt.Check{Number: 1, Session: 2, Seq: 3, Geo: g, Dir: []uint32{5, 4, 6}}, false)
	wantSame(t, a, ckpt.Check{Number: 1, Session: 2, Seq: 3, Geo: g, Dir: []uint32{4, 6, 5}}, false)
	wantSame(t, a, ckpt.Check{Number: 1, Session: 2, Seq: 3, Geo: geo.Geo{Zones: 12, Pages: 11, Blocks: 12}, Dir: []uint32{4, 5, 6}}, false)
	wantSame(t, a, ckpt.Check{Number: 1, Session: 2, Seq: 3, Geo: g, Dir: []uint32{4, 5, 6}}, true)
}

// An empty directory and none are one.
func TestSameOfNoDirectory(t *testing.T) {
	for _, g := range append(some, geo.Geo{}) {
		a, b := ckpt.Check{Number: 1, Geo: g}, ckpt.Check{Number: 1, Geo: g, Dir: []uint32{}}
		wantSame(t, a, b, true)
		b.Dir = make([]uint32, 0, 9)
		wantSame(t, a, b, true)
		b.Dir = b.Dir[:1]
		wantSame(t, a, b, false)
	}
}

// P6.2

func TestReadOfEachNumber(t *testing.T) {
	for _, g := range some {
		numbered(g, func(c ckpt.Check) { wantRead(t, blocksOf(c), c) })
	}
}

func TestReadOfNoneAndOne(t *testing.T) {
	wantNoRead(t, nil, api.ErrShort)
	wantNoRead(t, [][]byte{}, api.ErrShort)
	wantNoRead(t, [][]byte{nil}, api.ErrShort)
	wantNoRead(t, [][]byte{nil, nil}, api.ErrShort)
	wantNoRead(t, [][]byte{make([]byte, 16)}, api.ErrShort)
	for _, g := range some {
		l := blocksOf(checkOf(g))
		wantNoRead(t, l[:0], api.ErrShort)
		wantNoRead(t, l[:1], api.ErrShort)
		wantNoRead(t, [][]byte{bytes.Join(l, nil)}, api.ErrShort)
	}
}

func TestReadOfOneBlockLessAndOneMore(t *testing.T) {
	geometries(func(g geo.Geo) {
		l := blocksOf(checkOf(g))
		wantRead(t, l, checkOf(g))
		for many := range l {
			wantNoRead(t, l[:many], api.ErrShort)
		}
		for _, block := range [][]byte{make([]byte, 16), l[0], l[len(l)-1], bytes.Repeat([]byte{255}, 16)} {
			wantNoRead(t, append(clone(l), block), api.ErrShort)
			wantNoRead(t, append(clone(l), block, block), api.ErrShort)
		}
	})
}

// What room a list has behind its end is none of it.
func TestReadOfBlocksWithRoomBehind(t *testing.T) {
	c := checkOf(geo.Geo{Zones: 24, Pages: 16, Blocks: 64})
	l := blocksOf(c)
	all := bytes.Join(l, []byte{9, 9})
	for i := range l {
		l[i] = all[18*i : 18*i+16]
	}
	was := bytes.Clone(all)
	wantNoRead(t, l[:5], api.ErrShort)
	wantRead(t, append(l, nil)[:6], c)
	if !bytes.Equal(all, was) {
		t.Error("the blocks were changed")
	}
}

func TestReadOfBlocksOfOtherLengths(t *testing.T) {
	for _, g := range some {
		l := blocksOf(checkOf(g))
		for at, block := range l {
			for _, other := range [][]byte{nil, {}, block[:1], block[:4], block[:15], append(bytes.Clone(block), 0), append(bytes.Clone(block), block...), make([]byte, 1<<16)} {
				turned := clone(l)
				turned[at] = other
				wantNoRead(t, turned, api.ErrShort)
			}
			wantNoRead(t, slices.Insert(clone(l), at, nil), api.ErrShort)
			wantNoRead(t, slices.Insert(clone(l), at, []byte{}), api.ErrShort)
		}
		wantNoRead(t, append(clone(l), nil), api.ErrShort)
	}
}

// Blocks of other lengths, that are as many bytes together as the right ones.
func TestReadOfBytesThatAreCutElsewhere(t *testing.T) {
	for _, g := range some {
		l := blocksOf(checkOf(g))
		for at := range len(l) - 1 {
			both := append(bytes.Clone(l[at]), l[at+1]...)
			for _, where := range []int{0, 1, 15, 17, 31, 32} {
				turned := clone(l)
				turned[at], turned[at+1] = both[:where], both[where:]
				wantNoRead(t, turned, api.ErrShort)
			}
		}
	}
}

// withGeo are the blocks of a checkpoint, sealed again with other numbers of a
// geometry.
func withGeo(c ckpt.Check, zones, pages, blocks uint32) [][]byte {
	b := plain(c)
	binary.LittleEndian.PutUint32(b[12:], zones)
	binary.LittleEndian.PutUint32(b[16:], pages)
	binary.LittleEndian.PutUint32(b[20:], blocks)
	return cut(sealed(b))
}

// farNumbers are numbers of which no zones, pages or blocks may be.
var farNumbers = []uint32{0, 65, 127, 128, 255, 256, 65535, 65536, 1 << 24, 1<<24 + 11, 1<<16 + 4, 1<<31 - 1, 1 << 31, 1<<31 + 11, math.MaxUint32 - 1, math.MaxUint32}

func TestReadOfFarGeometries(t *testing.T) {
	for _, g := range some {
		zones, pages, blocks := uint32(g.Zones), uint32(g.Pages), uint32(g.Blocks)
		c := checkOf(g)
		for _, n := range farNumbers {
			wantNoRead(t, withGeo(c, n, pages, blocks), api.ErrForm)
			wantNoRead(t, withGeo(c, zones, n, blocks), api.ErrForm)
			wantNoRead(t, withGeo(c, zones, pages, n), api.ErrForm)
			wantNoRead(t, withGeo(c, n, n, n), api.ErrForm)
		}
	}
}

// Of the numbers around those that may be, each with as many blocks as its
// tables would have.
func TestReadOfGeometriesAround(t *testing.T) {
	for zones := 9; zones <= 26; zones++ {
		for pages := 2; pages <= 18; pages++ {
			for blocks := range 67 {
				g := geo.Geo{Zones: zones, Pages: pages, Blocks: blocks}
				c := checkOf(g)
				if l := blocksOf(c); mayBe(g) {
					wantRead(t, l, c)
				} else {
					wantNoRead(t, l, api.ErrForm)
				}
			}
		}
	}
}

func TestReadOfAnotherSum(t *testing.T) {
	for _, g := range some {
		c := checkOf(g)
		l, last := blocksOf(c), lastOf(g.Blocks)
		for at := last; at < last+4; at++ {
			for turn := 1; turn < 256; turn++ {
				turned := clone(l)
				turned[at/16][at%16] ^= byte(turn)
				wantNoRead(t, turned, api.ErrSum)
			}
		}
		turned := clone(l)
		clear(turned[last/16][last%16 : last%16+4])
		wantNoRead(t, turned, api.ErrSum)
		turned = cut(binary.BigEndian.AppendUint32(plain(c), adler32.Checksum(plain(c))))
		wantNoRead(t, turned, api.ErrSum)
	}
}

// A sum of bytes that are the sum's own, too, is another one; so is one of all
// bytes of the blocks.
func TestReadOfASumOfMore(t *testing.T) {
	for _, g := range some {
		c := checkOf(g)
		b := plain(c)
		for _, behind := range []int{4, 12, 16} {
			n := adler32.Checksum(append(bytes.Clone(b), make([]byte, behind)...))
			wantNoRead(t, cut(binary.LittleEndian.AppendUint32(bytes.Clone(b), n)), api.ErrSum)
		}
		n := adler32.Checksum(b[:len(b)-4])
		wantNoRead(t, cut(binary.LittleEndian.AppendUint32(bytes.Clone(b), n)), api.ErrSum)
	}
}

func TestReadOfSomethingBehind(t *testing.T) {
	places := 0
	for _, g := range some {
		l := blocksOf(checkOf(g))
		for at := lastOf(g.Blocks) + 4; at < 16*len(l); at++ {
			places++
			for c := 1; c < 256; c++ {
				turned := clone(l)
				turned[at/16][at%16] = byte(c)
				wantNoRead(t, turned, api.ErrForm)
			}
		}
		all := clone(l)
		for at := lastOf(g.Blocks) + 4; at < 16*len(l); at++ {
			all[at/16][at%16] = 255
			wantNoRead(t, all, api.ErrForm)
		}
	}
	if places == 0 {
		t.Error("nothing is behind any")
	}
}

// Two bytes behind that by their sum, or their bits, would be none.
func TestReadOfTwoBytesBehind(t *testing.T) {
	for _, g := range some {
		l := blocksOf(checkOf(g))
		from := lastOf(g.Blocks) + 4
		for at := from; at < 16*len(l); at++ {
			for other := at + 1; other < 16*len(l); other++ {
				for _, c := range []byte{1, 128, 255} {
					turned := clone(l)
					turned[at/16][at%16], turned[other/16][other%16] = c, -c
					wantNoRead(t, turned, api.ErrForm)
					turned[other/16][other%16] = c
					wantNoRead(t, turned, api.ErrForm)
				}
			}
		}
	}
}

// Several errors at once: the one that is named first is told.

// A block that hasn't its bytes is told ahead of a geometry that may not be.
func TestReadShortAheadOfForm(t *testing.T) {
	for _, g := range some {
		l := withGeo(checkOf(g), 0, math.MaxUint32, 65)
		wantNoRead(t, l, api.ErrForm)
		for at := range l {
			for _, many := range []int{0, 1, 12, 15} {
				turned := clone(l)
				turned[at] = turned[at][:many]
				wantNoRead(t, turned, api.ErrShort)
			}
			turned := clone(l)
			turned[at] = append(turned[at], 0)
			wantNoRead(t, turned, api.ErrShort)
		}
		wantNoRead(t, append(clone(l), make([]byte, 15)), api.ErrShort)
		wantNoRead(t, l[:1], api.ErrShort)
	}
}

// A geometry that may not be is told ahead of how many blocks there are, for
// what may not be tells of none.
func TestReadFormAheadOfShort(t *testing.T) {
	for _, g := range some {
		for _, n := range farNumbers {
			l := withGeo(checkOf(g), uint32(g.Zones), uint32(g.Pages), n)
			for many := 2; many <= len(l); many++ {
				wantNoRead(t, l[:many], api.ErrForm)
			}
			wantNoRead(t, append(clone(l), make([]byte, 16)), api.ErrForm)
			wantNoRead(t, append(clone(l), clone(l)...), api.ErrForm)
		}
	}
	wantNoRead(t, cut(make([]byte, 32)), api.ErrForm)
	wantNoRead(t, cut(make([]byte, 160)), api.ErrForm)
	wantNoRead(t, cut(bytes.Repeat([]byte{255}, 32)), api.ErrForm)
	wantNoRead(t, cut(bytes.Repeat([]byte{255}, 160)), api.ErrForm)
}

// How many blocks there are is told ahead of the sum.
func TestReadShortAheadOfSum(t *testing.T) {
	for _, g := range some {
		l := blocksOf(checkOf(g))
		l[0][0]++
		wantNoRead(t, l, api.ErrSum)
		wantNoRead(t, append(clone(l), make([]byte, 16)), api.ErrShort)
		for many := 2; many < len(l); many++ {
			wantNoRead(t, l[:many], api.ErrShort)
		}
	}
}

// A geometry that may not be is told ahead of the sum, too.
func TestReadFormAheadOfSum(t *testing.T) {
	for _, g := range some {
		for _, n := range farNumbers {
			l := withGeo(checkOf(g), n, uint32(g.Pages), uint32(g.Blocks))
			l[0][0]++
			wantNoRead(t, l, api.ErrForm)
		}
	}
}

// The sum is told ahead of what is behind.
func TestReadSumAheadOfForm(t *testing.T) {
	for _, g := range some {
		l := blocksOf(checkOf(g))
		for at := lastOf(g.Blocks) + 4; at < 16*len(l); at++ {
			turned := clone(l)
			turned[at/16][at%16] = 1
			wantNoRead(t, turned, api.ErrForm)
			turned[0][4] ^= 128
			wantNoRead(t, turned, api.ErrSum)
		}
	}
}

// A great many blocks cost no more than they are.
func TestReadOfVeryManyBlocks(t *testing.T) {
	l := blocksOf(checkOf(some[0]))
	many := slices.Repeat(l, 1<<20)
	wantNoRead(t, many, api.ErrShort)
	wantNoRead(t, slices.Repeat([][]byte{make([]byte, 16)}, 1<<20), api.ErrForm)
	many[len(many)-1] = make([]byte, 17)
	wantNoRead(t, many, api.ErrShort)
}

// P6.3

func TestCheckpointsComeBack(t *testing.T) {
	geometries(func(g geo.Geo) {
		tables := tablesOf(g.Blocks)
		for _, dir := range [][]uint32{make([]uint32, tables), filled(tables, math.MaxUint32), mixed(tables, 5)} {
			c := ckpt.Check{Number: math.MaxUint32, Session: 1, Seq: 65536, Geo: g, Dir: dir}
			l, err := ckpt.Blocks(c)
			if err != nil {
				t.Fatalf("Blocks(%v): %v", c, err)
			}
			wantRead(t, l, c)
			if back, _ := ckpt.Read(l); !ckpt.Same(back, c) || !ckpt.Right(back) {
				t.Fatalf("%v instead of %v", back, c)
			}
		}
	})
	for _, g := range some {
		numbered(g, func(c ckpt.Check) {
			l, err := ckpt.Blocks(c)
			if err != nil {
				t.Fatalf("Blocks(%v): %v", c, err)
			}
			wantRead(t, l, c)
		})
	}
}

func TestBlocksComeBackFromTheirCheckpoints(t *testing.T) {
	geometries(func(g geo.Geo) {
		l := blocksOf(checkOf(g))
		c, err := ckpt.Read(l)
		if err != nil {
			t.Fatalf("Read(%v): %v", l, err)
		}
		wantBlocks(t, c, l)
	})
}

func TestBlocksFitIntoAZone(t *testing.T) {
	geometries(func(g geo.Geo) {
		l, err := ckpt.Blocks(checkOf(g))
		if err != nil || len(l) > g.Pages || len(l) != ckpt.Many(g.Blocks) || len(l) < 2 {
			t.Fatalf("%v: %d blocks, %v", g, len(l), err)
		}
		for _, block := range l {
			if len(block) != api.Block {
				t.Fatalf("%v: a block of %d bytes", g, len(block))
			}
		}
	})
}

// At each byte of the blocks, that byte as each other one.
func TestNothingComesBackOfOneOtherByte(t *testing.T) {
	var all []ckpt.Check
	for _, e := range examples {
		all = append(all, e.check)
	}
	for _, g := range some {
		tables := tablesOf(g.Blocks)
		all = append(all, checkOf(g), ckpt.Check{Geo: g, Dir: make([]uint32, tables)},
			ckpt.Check{Number: math.MaxUint32, Session: math.MaxUint32, Seq: math.MaxUint32, Geo: g, Dir: filled(tables, math.MaxUint32)})
	}
	for _, c := range all {
		l, err := ckpt.Blocks(c)
		if err != nil {
			t.Fatalf("Blocks(%v): %v", c, err)
		}
		for at := range 16 * len(l) {
			byteAt := &l[at/16][at%16]
			was := *byteAt
			for turn := 1; turn < 256; turn++ {
				*byteAt = was ^ byte(turn)
				want := codeOf(l)
				if want == api.OK {
					t.Fatalf("a checkpoint comes back: %v", l)
				}
				wantNoRead(t, l, want)
			}
			*byteAt = was
		}
		wantRead(t, l, c)
	}
}

// A checkpoint whose directory has the sum that it would have with fewer
// tables: its own sum stands behind that, so that nothing comes back.
func TestNothingComesBackWithFewerTables(t *testing.T) {
	for fewer := 2; fewer < 5; fewer++ {
		c := checkOf(geo.Geo{Zones: 24, Pages: 16, Blocks: 20})
		clear(c.Dir[fewer:])
		turned := c
		turned.Geo.Blocks, turned.Dir = 4*fewer, c.Dir[:fewer]
		c.Dir[fewer] = adler32.Checksum(plain(turned))
		l := blocksOf(c)
		wantRead(t, l, c)
		l[1][4] = byte(4 * fewer)
		wantNoRead(t, l, api.ErrForm)
	}
}

// With more tables the sum would stand where there is nothing.
func TestNothingComesBackWithMoreTables(t *testing.T) {
	c := checkOf(geo.Geo{Zones: 24, Pages: 16, Blocks: 8})
	for _, blocks := range []byte{9, 12, 13, 16, 17, 20} {
		l := blocksOf(c)
		l[1][4] = blocks
		wantNoRead(t, l, api.ErrSum)
	}
	for _, blocks := range []byte{5, 6, 7} {
		l := blocksOf(c)
		l[1][4] = blocks
		wantNoRead(t, l, api.ErrSum)
	}
	for _, blocks := range []byte{1, 4, 21, 64} {
		l := blocksOf(c)
		l[1][4] = blocks
		wantNoRead(t, l, api.ErrShort)
	}
}

func TestNothingComesBackOfBlocksInAnotherOrder(t *testing.T) {
	for _, g := range some {
		l := blocksOf(checkOf(g))
		for i := range l {
			for j := range i {
				turned := clone(l)
				turned[i], turned[j] = turned[j], turned[i]
				want := codeOf(turned)
				if want == api.OK {
					t.Fatalf("a checkpoint comes back: %v", turned)
				}
				wantNoRead(t, turned, want)
			}
		}
	}
}

// Blocks of any bytes: what is told of them is what the document's words tell.
func TestReadOfAnyBlocks(t *testing.T) {
	state := uint32(1)
	next := func(below int) int {
		state = state*1664525 + 1013904223
		return int(state>>8) % below
	}
	got := map[api.Errno]int{}
	for range 200000 {
		l := blocksOf(checkOf(some[next(len(some))]))
		for range next(3) {
			at := next(16 * len(l))
			if next(3) == 0 {
				at = 12 + 4*next(3)
			}
			l[at/16][at%16] = byte(next(70))
		}
		if next(4) == 0 {
			l = l[:next(len(l)+1)]
		}
		want := codeOf(l)
		got[want]++
		c, err := ckpt.Read(l)
		if fault.Code(err) != want || (err == nil) != (want == api.OK) || err != nil && !isNone(c) {
			t.Fatalf("Read(%v) = %v, %v, want code %d", l, c, err, want)
		}
		if err == nil {
			wantBlocks(t, c, l)
		}
	}
	for _, e := range []api.Errno{api.OK, api.ErrShort, api.ErrForm, api.ErrSum} {
		if got[e] == 0 {
			t.Errorf("code %d was never told", e)
		}
	}
}

// What rules hold everywhere: arguments stay, and answers share nothing with
// them, nor with one another.

// fill changes all bytes of blocks, and those behind them that they have room
// for.
func fill(l [][]byte, c byte) {
	for _, block := range l {
		block = block[:cap(block)]
		for i := range block {
			block[i] = c
		}
	}
}

func TestBlocksSharesNothing(t *testing.T) {
	for _, g := range some {
		c := checkOf(g)
		room := append(slices.Clone(c.Dir), 1, 2, 3)
		c.Dir = room[:len(c.Dir)]
		was, want := slices.Clone(room), blocksOf(c)
		one, err := ckpt.Blocks(c)
		other, errOther := ckpt.Blocks(c)
		if err != nil || errOther != nil || !slices.Equal(room, was) {
			t.Fatalf("%v, %v, %v", err, errOther, room)
		}
		clear(room)
		if !equal(one, want) {
			t.Errorf("the directory was changed, and so were the blocks: %v", one)
		}
		copy(room, was)
		fill(one, 77)
		for i := range one {
			_ = append(one[i], 1, 2, 3)
		}
		if !slices.Equal(room, was) || !equal(other, want) {
			t.Errorf("blocks were changed, and so were others: %v, %v", room, other)
		}
		wantBlocks(t, c, want)
	}
}

// No two blocks of one answer share any memory.
func TestBlocksOfOneAnswerShareNothing(t *testing.T) {
	for _, g := range some {
		want := blocksOf(checkOf(g))
		for at := range want {
			l, err := ckpt.Blocks(checkOf(g))
			if err != nil {
				t.Fatal(err)
			}
			fill(l[at:at+1], 77)
			for i := range l {
				if i != at && !bytes.Equal(l[i], want[i]) {
					t.Errorf("%v: block %d was changed, and so was block %d", g, at, i)
				}
			}
		}
	}
}

func TestReadSharesNothing(t *testing.T) {
	for _, g := range some {
		want := checkOf(g)
		l := blocksOf(want)
		was := clone(l)
		one, err := ckpt.Read(l)
		other, errOther := ckpt.Read(l)
		if err != nil || errOther != nil || !equal(l, was) {
			t.Fatalf("%v, %v, %v", err, errOther, l)
		}
		fill(l, 77)
		if !alike(one, want) || !alike(other, want) {
			t.Errorf("the blocks were changed, and so were checkpoints: %v, %v", one, other)
		}
		l = clone(was)
		again, err := ckpt.Read(l)
		if err != nil {
			t.Fatal(err)
		}
		clear(again.Dir[:cap(again.Dir)])
		_ = append(again.Dir, 1, 2, 3)
		if !equal(l, was) || !alike(one, want) {
			t.Errorf("a directory was changed, and so were others: %v, %v", l, one)
		}
		wantRead(t, l, want)
	}
}

func TestRightAndSameLeaveTheirArguments(t *testing.T) {
	for _, g := range some {
		a, b := checkOf(g), checkOf(g)
		b.Dir[0]++
		_, _, _ = ckpt.Right(a), ckpt.Same(a, b), ckpt.Same(b, a)
		b.Dir[0]--
		if !alike(a, checkOf(g)) || !alike(b, checkOf(g)) {
			t.Errorf("%v, %v", a, b)
		}
	}
}

// Beside an error arguments stay too.
func TestArgumentsStayBesideErrors(t *testing.T) {
	for _, g := range some {
		l := blocksOf(checkOf(g))
		for at := range 16 * len(l) {
			turned := clone(l)
			turned[at/16][at%16] ^= 255
			was := clone(turned)
			for many := range len(l) + 1 {
				_, _ = ckpt.Read(turned[:many])
			}
			if !equal(turned, was) {
				t.Fatalf("%v instead of %v", turned, was)
			}
		}
		c := checkOf(g)
		c.Geo.Zones = 0
		_, _ = ckpt.Blocks(c)
		if !slices.Equal(c.Dir, checkOf(g).Dir) {
			t.Fatalf("%v", c)
		}
	}
}

// Nothing is kept from call to call: an error ahead changes no answer.
func TestNothingIsKept(t *testing.T) {
	for range 3 {
		for _, e := range examples {
			wantNoRead(t, e.blocks[:1], api.ErrShort)
			wantRead(t, e.blocks, e.check)
			wantNoBlocks(t, ckpt.Check{Geo: e.check.Geo})
			wantBlocks(t, e.check, e.blocks)
		}
	}
}
