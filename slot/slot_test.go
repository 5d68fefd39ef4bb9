package slot_test

import (
	"bytes"
	"encoding/binary"
	"hash/adler32"
	"math"
	"slices"
	"strconv"
	"strings"
	"testing"

	"platelayer/api"
	"platelayer/ckpt"
	"platelayer/fault"
	"platelayer/geo"
	"platelayer/slot"
	"platelayer/zns"
)

// most is the greatest number.
const most = math.MaxUint32

// edges are numbers near the ends of what 32 bits tell, and near what fewer do.
var edges = []uint32{0, 1, 2, 3, 4, 5, 127, 128, 255, 256, 257, 1<<16 - 1, 1 << 16, 1 << 24, 1<<31 - 3, 1<<31 - 2, 1<<31 - 1, 1 << 31, 1<<31 + 1, 1<<31 + 2, most - 4, most - 3, most - 2, most - 1, most}

// far are zones that no device has.
var far = []int{math.MinInt, math.MinInt + 1, math.MinInt32, -256, -25, -24, -3, -2, -1, 24, 25, 26, 255, 256, 1<<32 - 1, 1 << 32, 1<<32 + 9, -1 << 32, math.MaxInt32, math.MaxInt - 1, math.MaxInt}

// small is a device's least geometry, of the most Blocks that fit.
var small = geo.Geo{Zones: 11, Pages: 4, Blocks: 6}

// some are geometries of one Block and of as many as fit, on devices of the
// least and of the most zones and pages, and some between.
var some = []geo.Geo{
	small, {Zones: 11, Pages: 4, Blocks: 1}, {Zones: 24, Pages: 4, Blocks: 16}, {Zones: 11, Pages: 16, Blocks: 25},
	{Zones: 24, Pages: 16, Blocks: 1}, {Zones: 24, Pages: 16, Blocks: 64}, {Zones: 17, Pages: 9, Blocks: 20}, {Zones: 12, Pages: 5, Blocks: 9},
}

// by is text of numbers.
func by(numbers ...int) string {
	var l []string
	for _, n := range numbers {
		l = append(l, strconv.Itoa(n))
	}
	return strings.Join(l, " ")
}

// tablesOf is how many map pages tell so many blocks, by the document's words.
func tablesOf(blocks int) int { return (blocks + 3) / 4 }

// mayBe tells whether a geometry may be, by the document's words.
func mayBe(g geo.Geo) bool {
	if g.Zones < 11 || g.Zones > 24 || g.Pages < 4 || g.Pages > 16 || g.Blocks < 1 || g.Blocks > 64 {
		return false
	}
	tables := tablesOf(g.Blocks)
	return tables <= g.Pages && g.Blocks+tables <= (g.Zones-7)*g.Pages/2
}

// checkOf is a checkpoint of a geometry and a number; all else hangs on these.
func checkOf(g geo.Geo, number uint32) ckpt.Check {
	c := ckpt.Check{Number: number, Session: number*7 + 258, Seq: number ^ 0x0c0b0a09, Geo: g}
	for i := range tablesOf(g.Blocks) {
		c.Dir = append(c.Dir, uint32(i)*3+number%29)
	}
	return c
}

// laid are numbers as bytes, the lowest one first.
func laid(numbers ...uint32) []byte {
	var b []byte
	for _, n := range numbers {
		b = binary.LittleEndian.AppendUint32(b, n)
	}
	return b
}

// blocksOf are a checkpoint's blocks by the document's words; whether it may be
// isn't asked.
func blocksOf(c ckpt.Check) [][]byte {
	b := laid(append([]uint32{c.Number, c.Session, c.Seq, uint32(c.Geo.Zones), uint32(c.Geo.Pages), uint32(c.Geo.Blocks)}, c.Dir...)...)
	return cut(append(b, laid(adler32.Checksum(b))...))
}

// cut cuts bytes into blocks, the last one with 0 behind.
func cut(b []byte) [][]byte {
	b = append(bytes.Clone(b), make([]byte, (16-len(b)%16)%16)...)
	var l [][]byte
	for ; len(b) > 0; b = b[16:] {
		l = append(l, bytes.Clone(b[:16]))
	}
	return l
}

// leaf is what a page tells; one that is torn tells nothing.
type leaf struct {
	kind             byte
	session, id, seq uint32
	block            []byte
	torn             bool
}

// bytes are the page's, by the document's words.
func (f leaf) bytes() []byte {
	if f.torn {
		return nil
	}
	top := append([]byte{f.kind}, laid(f.session, f.id, f.seq)...)
	total := adler32.Checksum(append(bytes.Clone(top), f.block...))
	return append(append(top, laid(total)...), f.block...)
}

// leaves are a checkpoint's pages, as leaves.
func leaves(c ckpt.Check) []leaf {
	var l []leaf
	for i, block := range blocksOf(c) {
		l = append(l, leaf{kind: 5, session: c.Session, id: uint32(i), seq: c.Number, block: block})
	}
	return l
}

// paged are leaves as pages.
func paged(l []leaf) [][]byte {
	var pages [][]byte
	for _, f := range l {
		pages = append(pages, f.bytes())
	}
	return pages
}

// pagesOf are a checkpoint's pages, by the document's words.
func pagesOf(c ckpt.Check) [][]byte { return paged(leaves(c)) }

// turn is the slot of a number, by the document's words.
func turn(d *zns.Device, number uint32) int {
	if number%2 == 0 {
		return d.Zones() - 2
	}
	return d.Zones() - 1
}

func newDevice(t *testing.T, zones, pages int) *zns.Device {
	t.Helper()
	d, err := zns.New(zones, pages)
	if err != nil {
		t.Fatal(err)
	}
	return d
}

// deviceOf is an empty device of a geometry.
func deviceOf(t *testing.T, g geo.Geo) *zns.Device {
	t.Helper()
	return newDevice(t, g.Zones, g.Pages)
}

// lying is a device whose slots have just those pages, and whose log has some.
func lying(t *testing.T, zones, pages int, even, odd [][]byte) *zns.Device {
	t.Helper()
	l := make([][][]byte, zones)
	for z := range zones - 2 {
		for p := range z % (pages + 1) {
			l[z] = append(l[z], leaf{kind: 1, id: uint32(z), seq: uint32(p), block: make([]byte, 16)}.bytes())
		}
	}
	l[zones-2], l[zones-1] = even, odd
	d, err := zns.Load(pages, l)
	if err != nil {
		t.Fatal(err)
	}
	return d
}

// seen is all that a device tells, as text; of one whose power is gone no pages.
func seen(d *zns.Device) string {
	var b strings.Builder
	b.WriteString(by(d.Zones(), d.Pages(), d.Ops()) + strconv.FormatBool(d.Down()) + "\n")
	for zone := range d.Zones() {
		b.WriteString(seenZone(d, zone))
	}
	return b.String()
}

// seenZone is all that a device tells of a zone, as text.
func seenZone(d *zns.Device, zone int) string {
	text := by(zone, d.State(zone), d.Point(zone), d.Sure(zone))
	for page := range d.Point(zone) {
		got, err := d.Read(zone, page)
		text += " " + by(int(fault.Code(err))) + string(got)
	}
	return text + "\n"
}

// seenLog is all that a device tells of its log, as text.
func seenLog(d *zns.Device) string {
	text := ""
	for zone := range d.Zones() - 2 {
		text += seenZone(d, zone)
	}
	return text
}

// wantSeen holds all that a device tells against what it told ahead.
func wantSeen(t *testing.T, what string, d *zns.Device, want string) {
	t.Helper()
	if got := seen(d); got != want {
		t.Fatalf("%s: told\n%q\nwant\n%q", what, got, want)
	}
}

// wantCode holds an error against a code; OK stands for none at all.
func wantCode(t *testing.T, what string, err error, want api.Errno) {
	t.Helper()
	if want == api.OK && err != nil {
		t.Fatalf("%s: %v, want none", what, err)
	}
	if want != api.OK && (fault.Code(err) != want || !fault.Is(err, want)) {
		t.Fatalf("%s: %v, want code %d", what, err, want)
	}
}

func wantWrite(t *testing.T, d *zns.Device, c ckpt.Check, want api.Errno) {
	t.Helper()
	wantCode(t, "Write "+strconv.Itoa(int(c.Number)), slot.Write(d, c), want)
}

// alike holds two checkpoints against each other without the program's help.
func alike(a, b ckpt.Check) bool {
	return a.Number == b.Number && a.Session == b.Session && a.Seq == b.Seq && a.Geo == b.Geo && slices.Equal(a.Dir, b.Dir)
}

// wantCheck holds an answer against a checkpoint, or against an error.
func wantCheck(t *testing.T, what string, got ckpt.Check, err error, want ckpt.Check, code api.Errno) {
	t.Helper()
	wantCode(t, what, err, code)
	if !alike(got, want) {
		t.Fatalf("%s = %v, want %v", what, got, want)
	}
}

func wantRead(t *testing.T, d *zns.Device, zone int, want ckpt.Check) {
	t.Helper()
	got, err := slot.Read(d, zone)
	wantCheck(t, "Read "+strconv.Itoa(zone), got, err, want, api.OK)
}

func wantNoRead(t *testing.T, d *zns.Device, zone int, want api.Errno) {
	t.Helper()
	got, err := slot.Read(d, zone)
	wantCheck(t, "Read "+strconv.Itoa(zone), got, err, ckpt.Check{}, want)
}

func wantNewest(t *testing.T, d *zns.Device, want ckpt.Check) {
	t.Helper()
	got, err := slot.Newest(d)
	wantCheck(t, "Newest", got, err, want, api.OK)
}

func wantNoNewest(t *testing.T, d *zns.Device, want api.Errno) {
	t.Helper()
	got, err := slot.Newest(d)
	wantCheck(t, "Newest", got, err, ckpt.Check{}, want)
}

// holds tells the checkpoint of a slot, by the document's words alone: all are
// tried that its first bytes may tell, and the slot must have just the pages
// that such a one has.
func holds(d *zns.Device, zone int) (ckpt.Check, bool) {
	var pages [][]byte
	var b []byte
	for p := range d.Point(zone) {
		page, err := d.Read(zone, p)
		if err != nil {
			return ckpt.Check{}, false
		}
		pages, b = append(pages, page), append(b, page[17:]...)
	}
	if len(pages) < 2 {
		return ckpt.Check{}, false
	}
	number := func(at int) uint32 { return binary.LittleEndian.Uint32(b[4*at:]) }
	g := geo.Geo{Zones: int(number(3)), Pages: int(number(4)), Blocks: int(number(5))}
	if !mayBe(g) || g.Zones != d.Zones() || g.Pages != d.Pages() || len(b) < 4*(7+tablesOf(g.Blocks)) {
		return ckpt.Check{}, false
	}
	c := ckpt.Check{Number: number(0), Session: number(1), Seq: number(2), Geo: g}
	for i := range tablesOf(g.Blocks) {
		c.Dir = append(c.Dir, number(6+i))
	}
	if zone != turn(d, c.Number) || !slices.EqualFunc(pages, pagesOf(c), bytes.Equal) {
		return ckpt.Check{}, false
	}
	return c, true
}

// newestOf tells the newest checkpoint, by the document's words alone.
func newestOf(d *zns.Device) (ckpt.Check, bool) {
	a, inEven := holds(d, d.Zones()-2)
	b, inOdd := holds(d, d.Zones()-1)
	if !inEven || !inOdd {
		return slices.MaxFunc([]ckpt.Check{a, b}, func(x, y ckpt.Check) int { return x.Geo.Zones - y.Geo.Zones }), inEven || inOdd
	}
	if newerOf(a.Number, b.Number) {
		return a, true
	}
	return b, true
}

// newerOf tells whether of two numbers the first is the newer one's, by the
// document's words.
func newerOf(a, b uint32) bool {
	if (uint64(b)+1)%(1<<32) == uint64(a) {
		return true
	}
	return (uint64(a)+1)%(1<<32) != uint64(b) && a > b
}

// wantWords holds what is read of a device against the document's words, and
// that nothing was changed by reading.
func wantWords(t *testing.T, d *zns.Device) {
	t.Helper()
	was := seen(d)
	for _, zone := range []int{d.Zones() - 2, d.Zones() - 1} {
		want, ok := holds(d, zone)
		got, err := slot.Read(d, zone)
		wantCheck(t, "Read "+strconv.Itoa(zone), got, err, want, codeOf(d, ok))
	}
	want, ok := newestOf(d)
	got, err := slot.Newest(d)
	wantCheck(t, "Newest", got, err, want, codeOf(d, ok))
	wantSeen(t, "reading", d, was)
}

// codeOf is the code of what is read, where it is there or not.
func codeOf(d *zns.Device, there bool) api.Errno {
	switch {
	case d.Down():
		return api.ErrDown
	case !there:
		return api.ErrCorrupt
	}
	return api.OK
}

// byHand writes a checkpoint by the document's words alone: the code.
func byHand(d *zns.Device, c ckpt.Check) api.Errno {
	if d.Zones() < 2 || !mayBe(c.Geo) || len(c.Dir) != tablesOf(c.Geo.Blocks) || c.Geo.Zones != d.Zones() || c.Geo.Pages != d.Pages() {
		return api.ErrArg
	}
	zone := turn(d, c.Number)
	if err := d.Reset(zone); err != nil {
		return fault.Code(err)
	}
	for _, page := range pagesOf(c) {
		if _, err := d.Append(zone, page); err != nil {
			return fault.Code(err)
		}
	}
	return fault.Code(d.Flush())
}

// dice tells numbers by a short rule.
type dice uint32

// of tells one of so many numbers.
func (r *dice) of(many int) int {
	*r = *r*1664525 + 1013904223
	return int(*r>>8) % many
}

// check tells a checkpoint of a geometry, whose numbers are at times edges.
func (r *dice) check(g geo.Geo, number uint32) ckpt.Check {
	g.Blocks = 1 + r.of(g.Blocks)
	c := ckpt.Check{Number: number, Session: uint32(r.of(3)), Seq: uint32(r.of(1000)), Geo: g}
	if r.of(2) == 0 {
		c.Session, c.Seq = edges[r.of(len(edges))], edges[r.of(len(edges))]
	}
	for range tablesOf(g.Blocks) {
		c.Dir = append(c.Dir, uint32(r.of(1<<24))*uint32(r.of(257)))
	}
	return c
}

// P15.1

// Even numbers lie in the last zone but one, odd ones in the last.
func TestWhere(t *testing.T) {
	for zones := 2; zones <= 24; zones++ {
		for _, pages := range []int{1, 2, 4, 16} {
			d := newDevice(t, zones, pages)
			for _, number := range edges {
				want := zones - 2 + int(number&1)
				if got := slot.Where(d, number); got != want {
					t.Fatalf("Where(%d zones, %d) = %d, want %d", zones, number, got, want)
				}
			}
			for number := range uint32(600) {
				if got := slot.Where(d, number); got != zones-2+int(number%2) {
					t.Fatalf("Where(%d zones, %d) = %d", zones, number, got)
				}
			}
		}
	}
}

// It hangs on the number alone: not on what lies there, nor on the power.
func TestWhereWhatever(t *testing.T) {
	d := deviceOf(t, small)
	for number := range uint32(6) {
		wantWrite(t, d, checkOf(small, number), api.OK)
		d.Fuse(0)
		wantWrite(t, d, checkOf(small, number+1), api.ErrDown)
		was := seen(d)
		for _, n := range edges {
			if got := slot.Where(d, n); got != 9+int(n%2) {
				t.Fatalf("Where(%d) = %d", n, got)
			}
		}
		wantSeen(t, "Where", d, was)
		d.Crash(nil, nil)
	}
}

// P15.2

// wantRefused holds that a Write is ErrArg, with the power there and gone, and
// changes nothing.
func wantRefused(t *testing.T, what string, d *zns.Device, c ckpt.Check) {
	t.Helper()
	was, came := seen(d), ckpt.Check{Number: c.Number, Session: c.Session, Seq: c.Seq, Geo: c.Geo, Dir: slices.Clone(c.Dir)}
	wantCode(t, what, slot.Write(d, c), api.ErrArg)
	wantSeen(t, what, d, was)
	d.Fuse(0)
	wantCode(t, what+" with a fuse", slot.Write(d, c), api.ErrArg)
	wantSeen(t, what+" with a fuse", d, was)
	if err := d.Flush(); fault.Code(err) != api.ErrDown {
		t.Fatalf("%s: %v", what, err)
	}
	wantCode(t, what+" without power", slot.Write(d, c), api.ErrArg)
	if !alike(c, came) {
		t.Fatalf("%s: the checkpoint is %v, was %v", what, c, came)
	}
	d.Crash(nil, nil)
	wantSeen(t, what+" behind a crash", d, was)
}

func TestWriteOneZone(t *testing.T) {
	for pages := 1; pages <= 16; pages++ {
		for _, g := range append(slices.Clone(some), geo.Geo{}, geo.Geo{Zones: 1, Pages: pages, Blocks: 1}, geo.Geo{Zones: 1, Pages: pages}) {
			for _, number := range []uint32{0, 1, most} {
				wantRefused(t, "one zone", newDevice(t, 1, pages), checkOf(g, number))
			}
		}
	}
}

// Devices of fewer zones or pages than any geometry take no checkpoint.
func TestWriteSmallDevices(t *testing.T) {
	for zones := 2; zones <= 11; zones++ {
		for pages := 1; pages <= 4 && (zones < 11 || pages < 4); pages++ {
			for _, g := range []geo.Geo{small, {Zones: zones, Pages: pages, Blocks: 1}, {Zones: zones, Pages: pages}} {
				wantRefused(t, by(zones, pages), newDevice(t, zones, pages), checkOf(g, 4))
				wantRefused(t, by(zones, pages), newDevice(t, zones, pages), checkOf(g, 5))
			}
		}
	}
}

// Checkpoints that may not be: of geometries that may not be, on a device of
// just those zones and pages, and of directories that are too short or long.
func TestWriteMayNotBe(t *testing.T) {
	for _, g := range some {
		for _, number := range []uint32{4, 5} {
			good := checkOf(g, number)
			d := lying(t, g.Zones, g.Pages, pagesOf(checkOf(g, 2)), pagesOf(checkOf(g, 3)))
			for _, blocks := range []int{math.MinInt, -1, 0, 65, 1 << 32, 1<<32 + g.Blocks, math.MaxInt} {
				c := good
				c.Geo.Blocks = blocks
				wantRefused(t, "Blocks", d, c)
				c.Dir = nil
				wantRefused(t, "Blocks, no directory", d, c)
			}
			for many := range len(good.Dir) + 18 {
				c := good
				c.Dir = append(slices.Clone(c.Dir), make([]uint32, 18)...)[:many]
				if many != len(good.Dir) {
					wantRefused(t, "directory", d, c)
				}
			}
		}
	}
	d, c := deviceOf(t, small), checkOf(small, 4)
	c.Geo.Blocks, c.Dir = 7, make([]uint32, 2)
	wantRefused(t, "a Block too many", d, c)
}

// Geometries that may be, but of another device.
func TestWriteOtherDevices(t *testing.T) {
	for _, g := range some {
		d := lying(t, g.Zones, g.Pages, pagesOf(checkOf(g, 2)), nil)
		for zones := 11; zones <= 24; zones++ {
			for pages := 4; pages <= 16; pages++ {
				other := geo.Geo{Zones: zones, Pages: pages, Blocks: 1 + (zones+pages)%6}
				if !mayBe(other) || zones == g.Zones && pages == g.Pages {
					continue
				}
				wantRefused(t, "other "+by(zones, pages), d, checkOf(other, uint32(zones+pages/2)))
			}
		}
	}
}

// What lies on the device behind a Write: just a checkpoint's pages, all sure;
// each call of it took one of the fuse.
func TestWritePages(t *testing.T) {
	for _, g := range some {
		for _, number := range edges {
			d, c := deviceOf(t, g), checkOf(g, number)
			wantWrite(t, d, c, api.OK)
			pages := pagesOf(c)
			for zone := range g.Zones {
				many := 0
				if zone == turn(d, number) {
					many = len(pages)
				}
				if d.Point(zone) != many || d.Sure(zone) != many {
					t.Fatalf("%v %d: zone %d of %d pages, %d sure", g, number, zone, d.Point(zone), d.Sure(zone))
				}
			}
			for p, page := range pages {
				got, err := d.Read(turn(d, number), p)
				if err != nil || !bytes.Equal(got, page) {
					t.Fatalf("%v %d: page %d is %v, %v, want %v", g, number, p, got, err, page)
				}
			}
			if d.Ops() != len(pages)+2 || d.Down() {
				t.Fatalf("%v %d: %d calls for %d pages", g, number, d.Ops(), len(pages))
			}
		}
	}
}

// All geometries that may be are written, and read.
func TestWriteAllGeometries(t *testing.T) {
	for zones := 11; zones <= 24; zones++ {
		for pages := 4; pages <= 16; pages++ {
			d, other := newDevice(t, zones, pages), newDevice(t, zones, pages)
			for blocks := 1; mayBe(geo.Geo{Zones: zones, Pages: pages, Blocks: blocks}); blocks++ {
				c := checkOf(geo.Geo{Zones: zones, Pages: pages, Blocks: blocks}, uint32(blocks))
				wantWrite(t, d, c, api.OK)
				if byHand(other, c) != api.OK {
					t.Fatalf("%v by hand", c)
				}
				wantSeen(t, "Write", d, seen(other))
				wantRead(t, d, turn(d, c.Number), c)
				wantNewest(t, d, c)
			}
		}
	}
}

// Whatever lies in the slot goes: pages of all kinds, torn ones, and whether
// the zone was full or finished.
func TestWriteOver(t *testing.T) {
	c := checkOf(small, 5)
	junk := leaf{kind: 1, block: make([]byte, 16)}.bytes()
	for _, had := range [][][]byte{nil, {junk}, {nil}, {nil, junk, nil, nil}, {junk, junk, junk, junk}, pagesOf(c), pagesOf(checkOf(small, 7)), append(pagesOf(checkOf(small, 7)), nil)} {
		for _, finish := range []bool{false, true} {
			d := lying(t, 11, 4, pagesOf(checkOf(small, 4)), had)
			if finish && len(had) > 0 {
				wantCode(t, "Finish", d.Finish(10), api.OK)
			}
			wantWrite(t, d, c, api.OK)
			wantRead(t, d, 10, c)
			if d.Point(10) != 3 || d.Sure(10) != 3 || d.State(10) != zns.Open {
				t.Fatalf("%d pages, %d sure, state %d", d.Point(10), d.Sure(10), d.State(10))
			}
			wantRead(t, d, 9, checkOf(small, 4))
		}
	}
}

// Numbers one behind the other take turns; each takes its slot alone.
func TestWriteTurns(t *testing.T) {
	for _, g := range some {
		for _, first := range []uint32{0, 1, 1<<31 - 3, most - 3} {
			d := deviceOf(t, g)
			for i := range uint32(9) {
				number := first + i
				stays := seenZone(d, turn(d, number+1))
				wantWrite(t, d, checkOf(g, number), api.OK)
				if got := seenZone(d, turn(d, number+1)); got != stays {
					t.Fatalf("%d: the other slot is %q, was %q", number, got, stays)
				}
				wantNewest(t, d, checkOf(g, number))
				wantRead(t, d, turn(d, number), checkOf(g, number))
				if i > 0 {
					wantRead(t, d, turn(d, number-1), checkOf(g, number-1))
				}
			}
		}
	}
}

// A number that was there may be written again, and one of the same parity
// takes its slot, whichever is the greater.
func TestWriteAgain(t *testing.T) {
	for _, numbers := range [][2]uint32{{4, 4}, {5, 5}, {4, 2}, {2, 4}, {5, 1}, {0, most - 1}, {most, 1}} {
		d := deviceOf(t, small)
		wantWrite(t, d, checkOf(small, numbers[0]), api.OK)
		c := checkOf(small, numbers[1])
		c.Session, c.Seq, c.Geo.Blocks, c.Dir = 9, 10, 3, []uint32{11}
		wantWrite(t, d, c, api.OK)
		wantRead(t, d, turn(d, c.Number), c)
		wantNoRead(t, d, turn(d, c.Number+1), api.ErrCorrupt)
		wantNewest(t, d, c)
	}
}

// A fuse of each length: the call that fails is told, those ahead of it were
// done, and nothing behind it is.
func TestWriteFuse(t *testing.T) {
	for _, g := range some {
		for _, number := range []uint32{4, 5} {
			c := checkOf(g, number)
			calls := len(pagesOf(c)) + 2
			for fuse := range calls + 3 {
				d := lying(t, g.Zones, g.Pages, pagesOf(checkOf(g, 2)), pagesOf(checkOf(g, 3)))
				other := lying(t, g.Zones, g.Pages, pagesOf(checkOf(g, 2)), pagesOf(checkOf(g, 3)))
				d.Fuse(fuse)
				other.Fuse(fuse)
				want := byHand(other, c)
				if (want == api.ErrDown) != (fuse < calls) || d.Down() {
					t.Fatalf("%v: fuse %d by hand: %d", g, fuse, want)
				}
				wantWrite(t, d, c, want)
				if d.Ops() != min(fuse, calls) || d.Down() != (fuse < calls) {
					t.Fatalf("%v: fuse %d: Ops %d, Down %v", g, fuse, d.Ops(), d.Down())
				}
				wantSeen(t, "fuse "+strconv.Itoa(fuse), d, seen(other))
				wantAgain(t, d, c)
				all := slices.Repeat([]int{99}, g.Zones)
				d.Crash(all, nil)
				other.Crash(all, nil)
				wantSeen(t, "crash "+strconv.Itoa(fuse), d, seen(other))
			}
		}
	}
}

// wantAgain holds that while the power is gone one more Write does nothing.
func wantAgain(t *testing.T, d *zns.Device, c ckpt.Check) {
	t.Helper()
	if !d.Down() {
		return
	}
	was := seen(d)
	wantWrite(t, d, c, api.ErrDown)
	wantSeen(t, "without power", d, was)
}

// The power is gone ahead of a Write: nothing is done.
func TestWriteDown(t *testing.T) {
	for number := range uint32(4) {
		d := lying(t, 11, 4, pagesOf(checkOf(small, 2)), pagesOf(checkOf(small, 3)))
		was := seen(d)
		d.Fuse(0)
		wantCode(t, "Flush", d.Flush(), api.ErrDown)
		d.Fuse(-1)
		gone := seen(d)
		wantWrite(t, d, checkOf(small, number), api.ErrDown)
		wantSeen(t, "without power", d, gone)
		d.Crash(nil, nil)
		wantSeen(t, "behind a crash", d, was)
	}
}

// P15.3

// The chapter's example.
func TestExample(t *testing.T) {
	four, five := checkOf(small, 4), checkOf(small, 5)
	d := deviceOf(t, small)
	wantWrite(t, d, four, api.OK)
	wantWrite(t, d, five, api.OK)
	wantNewest(t, d, five)
	for torn := range 3 {
		pages := pagesOf(five)
		pages[torn] = nil
		wantNewest(t, lying(t, 11, 4, pagesOf(four), pages), four)
		wantNewest(t, lying(t, 11, 4, pagesOf(four), pages[:torn+1]), four)
	}
	d.Fuse(4)
	wantWrite(t, d, checkOf(small, 7), api.ErrDown)
	d.Crash([]int{10: 1}, []bool{10: true})
	wantNewest(t, d, four)
	wantNoRead(t, d, 10, api.ErrCorrupt)
}

// Of each zone of a device the slots alone are read.
func TestReadZones(t *testing.T) {
	for _, g := range some {
		even, odd := checkOf(g, 6), checkOf(g, 7)
		l := slices.Repeat([][][]byte{pagesOf(even), pagesOf(odd)}, 12)
		d, err := zns.Load(g.Pages, l[:g.Zones])
		if err != nil {
			t.Fatal(err)
		}
		wantWrite(t, d, even, api.OK)
		wantWrite(t, d, odd, api.OK)
		was := seen(d)
		for zone := range g.Zones - 2 {
			wantNoRead(t, d, zone, api.ErrArg)
		}
		wantRead(t, d, g.Zones-2, even)
		wantRead(t, d, g.Zones-1, odd)
		for _, zone := range append([]int{g.Zones, g.Zones + 1}, far...) {
			wantNoRead(t, d, zone, api.ErrArg)
		}
		wantSeen(t, "Read", d, was)
	}
}

// Without power all reading is ErrDown, whatever is asked of whatever device.
func TestReadDown(t *testing.T) {
	for _, zones := range []int{1, 2, 3, 11, 24} {
		d := newDevice(t, zones, 4)
		if zones == 11 {
			wantWrite(t, d, checkOf(small, 4), api.OK)
		}
		d.Fuse(0)
		wantCode(t, "Flush", d.Flush(), api.ErrDown)
		was := seen(d)
		for zone := -3; zone <= zones+3; zone++ {
			wantNoRead(t, d, zone, api.ErrDown)
		}
		for _, zone := range far {
			wantNoRead(t, d, zone, api.ErrDown)
		}
		wantNoNewest(t, d, api.ErrDown)
		wantSeen(t, "without power", d, was)
	}
}

// A device of one zone has no slots, whatever lies there.
func TestReadOneZone(t *testing.T) {
	for _, pages := range [][][]byte{nil, {nil}, pagesOf(checkOf(small, 4)), pagesOf(checkOf(small, 5))} {
		d, err := zns.Load(4, [][][]byte{pages})
		if err != nil {
			t.Fatal(err)
		}
		was := seen(d)
		for zone := -3; zone <= 3; zone++ {
			wantNoRead(t, d, zone, api.ErrArg)
		}
		for _, zone := range far {
			wantNoRead(t, d, zone, api.ErrArg)
		}
		wantNoNewest(t, d, api.ErrArg)
		wantSeen(t, "one zone", d, was)
	}
}

// Empty devices of all sizes hold none; those of fewer zones or pages than any
// geometry hold none, whatever lies there.
func TestReadNone(t *testing.T) {
	for zones := 2; zones <= 24; zones++ {
		for pages := 1; pages <= 16; pages++ {
			wantCorrupt(t, newDevice(t, zones, pages))
			if zones >= 11 && pages >= 4 {
				continue
			}
			c := checkOf(geo.Geo{Zones: zones, Pages: pages, Blocks: 1}, 4)
			l := pagesOf(c)
			wantCorrupt(t, lying(t, zones, pages, l[:min(len(l), pages)], nil))
			l = pagesOf(checkOf(small, 5))
			wantCorrupt(t, lying(t, zones, pages, nil, l[:min(len(l), pages)]))
		}
	}
}

// wantCorrupt holds that neither slot holds a checkpoint.
func wantCorrupt(t *testing.T, d *zns.Device) {
	t.Helper()
	was := seen(d)
	wantNoRead(t, d, d.Zones()-2, api.ErrCorrupt)
	wantNoRead(t, d, d.Zones()-1, api.ErrCorrupt)
	wantNoNewest(t, d, api.ErrCorrupt)
	wantSeen(t, "reading", d, was)
}

// flaw is a way in which a slot's pages are no checkpoint's.
type flaw struct {
	what  string
	pages [][]byte
}

// flaws gathers them.
type flaws []flaw

// add adds the pages of a checkpoint whose leaves were changed.
func (l *flaws) add(what string, c ckpt.Check, change func(l []leaf) []leaf) {
	*l = append(*l, flaw{what, paged(change(leaves(c)))})
}

// each adds for each page of a checkpoint one where that was changed.
func (l *flaws) each(what string, c ckpt.Check, change func(f *leaf)) {
	for at := range leaves(c) {
		l.add(what+" at "+strconv.Itoa(at), c, func(pages []leaf) []leaf {
			change(&pages[at])
			return pages
		})
	}
}

// all adds one where all pages of a checkpoint were changed.
func (l *flaws) all(what string, c ckpt.Check, change func(f *leaf)) {
	l.add(what+" of all", c, func(pages []leaf) []leaf {
		for at := range pages {
			change(&pages[at])
		}
		return pages
	})
}

// more are numbers that, added, make another number of each.
var more = []uint32{1, 2, 3, 16, 256, 1 << 16, 1 << 24, 1 << 31, most - 1, most}

// ofHeads are those whose pages are torn, or tell something else.
func ofHeads(c ckpt.Check) flaws {
	var l flaws
	l.each("torn", c, func(f *leaf) { f.torn = true })
	l.all("torn", c, func(f *leaf) { f.torn = true })
	for _, kind := range []byte{0, 1, 2, 3, 4, 6, 7, 133, 255} {
		l.each("Kind", c, func(f *leaf) { f.kind = kind })
		l.all("Kind", c, func(f *leaf) { f.kind = kind })
	}
	for _, n := range more {
		l.each("Session", c, func(f *leaf) { f.session += n })
		l.all("Session", c, func(f *leaf) { f.session += n })
		l.each("Seq", c, func(f *leaf) { f.seq += n })
		l.all("Seq", c, func(f *leaf) { f.seq += n })
		l.each("Id", c, func(f *leaf) { f.id += n })
		l.all("Id", c, func(f *leaf) { f.id += n })
	}
	l.all("Id 0", c, func(f *leaf) { f.id = 0 })
	last := uint32(len(leaves(c)) - 1)
	l.all("Ids that fall", c, func(f *leaf) { f.id = last - f.id })
	return l
}

// ofOrder are those whose pages are too few, too many, or in another order.
func ofOrder(c ckpt.Check) flaws {
	var l flaws
	many := len(leaves(c))
	for at := range many {
		l.add("cut", c, func(f []leaf) []leaf { return f[:at] })
		l.add("without", c, func(f []leaf) []leaf { return slices.Delete(f, at, at+1) })
		l.add("without, Ids rise", c, func(f []leaf) []leaf { return risen(slices.Delete(f, at, at+1)) })
		l.add("twice", c, func(f []leaf) []leaf { return slices.Insert(f, at, f[at]) })
		l.add("twice, Ids rise", c, func(f []leaf) []leaf { return risen(slices.Insert(f, at, f[at])) })
		for to := range at {
			l.add("swapped", c, func(f []leaf) []leaf {
				f[at], f[to] = f[to], f[at]
				return f
			})
			l.add("swapped, Ids rise", c, func(f []leaf) []leaf {
				f[at], f[to] = f[to], f[at]
				return risen(f)
			})
		}
	}
	l.add("torn behind", c, func(f []leaf) []leaf { return append(f, leaf{torn: true}) })
	for _, kind := range []byte{1, 4, 5} {
		end := leaf{kind: kind, session: c.Session, id: uint32(many), seq: c.Number, block: make([]byte, 16)}
		l.add("a page too many", c, func(f []leaf) []leaf { return append(f, end) })
	}
	return l
}

// risen lets Ids rise from 0.
func risen(l []leaf) []leaf {
	for i := range l {
		l[i].id = uint32(i)
	}
	return l
}

// ofBlocks are those whose blocks are no checkpoint's, or another's than this
// slot of this device has. Their pages are right.
func ofBlocks(c ckpt.Check) flaws {
	var l flaws
	for at := range leaves(c) {
		for i := range 16 {
			l.add("byte", c, func(f []leaf) []leaf {
				f[at].block[i]++
				return f
			})
		}
	}
	for _, blocks := range []int{0, 65, 1 << 16, math.MaxUint32} {
		other := c
		other.Geo.Blocks = blocks
		l.add("Blocks", other, func(f []leaf) []leaf { return f })
	}
	for zones := range 30 {
		other := c
		other.Geo.Zones = zones
		if zones != c.Geo.Zones {
			l.add("Zones", other, func(f []leaf) []leaf { return f })
		}
	}
	for pages := range 30 {
		other := c
		other.Geo.Pages = pages
		if pages != c.Geo.Pages {
			l.add("Pages", other, func(f []leaf) []leaf { return f })
		}
	}
	for _, n := range more {
		if n%2 == 1 {
			other := c
			other.Number += n
			l.add("the other slot's", other, func(f []leaf) []leaf { return f })
		}
	}
	return l
}

// ofLater are those that have blocks of a later one behind.
func ofLater(c ckpt.Check) flaws {
	var l flaws
	for _, n := range []uint32{0, 1, 2, 4} {
		later := leaves(checkOf(c.Geo, c.Number+n))
		for from := range later {
			l.add("later", c, func(f []leaf) []leaf { return append(f, later[from:]...) })
			l.add("later, Ids rise", c, func(f []leaf) []leaf { return risen(append(f, slices.Clone(later[from:])...)) })
			l.add("later over", c, func(f []leaf) []leaf { return append(f[:from+1], later[from+1:]...) })
		}
	}
	return l
}

// flawsOf are all of them that a zone takes, and that are none of those that
// stay a checkpoint.
func flawsOf(c ckpt.Check) flaws {
	l := slices.Concat(ofHeads(c), ofOrder(c), ofBlocks(c), ofLater(c))
	return slices.DeleteFunc(l, func(f flaw) bool {
		return len(f.pages) > c.Geo.Pages || slices.EqualFunc(f.pages, pagesOf(c), bytes.Equal)
	})
}

// Slots that hold no checkpoint, for each of the reasons, beside one that does
// and beside one that is empty.
func TestReadFlaws(t *testing.T) {
	for _, g := range some {
		for _, number := range []uint32{4, 5, most} {
			c, near := checkOf(g, number), checkOf(g, number-1)
			l := flawsOf(c)
			if len(l) < 150 {
				t.Fatalf("%d flaws", len(l))
			}
			for _, f := range l {
				d := sided(t, g, number, f.pages, nil)
				if got, ok := holds(d, turn(d, number)); ok {
					t.Fatalf("%s: %v by the document's words", f.what, got)
				}
				wantFlaw(t, f, d, turn(d, number))
				wantNoNewest(t, d, api.ErrCorrupt)
				d = sided(t, g, number, f.pages, pagesOf(near))
				wantFlaw(t, f, d, turn(d, number))
				wantNewest(t, d, near)
			}
		}
	}
}

// sided is a device whose slot of a number has pages, and the other slot others.
func sided(t *testing.T, g geo.Geo, number uint32, own, other [][]byte) *zns.Device {
	t.Helper()
	if number%2 == 0 {
		return lying(t, g.Zones, g.Pages, own, other)
	}
	return lying(t, g.Zones, g.Pages, other, own)
}

func wantFlaw(t *testing.T, f flaw, d *zns.Device, zone int) {
	t.Helper()
	got, err := slot.Read(d, zone)
	wantCheck(t, f.what, got, err, ckpt.Check{}, api.ErrCorrupt)
	wantWords(t, d)
}

// A byte of a page turned, so that it is none: each byte, by each bit.
func TestReadTurned(t *testing.T) {
	c, near := checkOf(small, 5), checkOf(small, 4)
	for at := range 3 {
		for i := range 33 {
			for bit := range 8 {
				l := pagesOf(c)
				l[at][i] ^= 1 << bit
				d := lying(t, 11, 4, pagesOf(near), l)
				wantNoRead(t, d, 10, api.ErrCorrupt)
				wantNewest(t, d, near)
			}
		}
	}
}

// A checkpoint of the other slot is none of this one, on the same device.
func TestReadWrongSlot(t *testing.T) {
	for _, g := range some {
		for _, number := range edges {
			c := checkOf(g, number)
			d := sided(t, g, number, nil, pagesOf(c))
			wantCorrupt(t, d)
			wantRead(t, sided(t, g, number, pagesOf(c), pagesOf(c)), turn(d, number), c)
			wantNoRead(t, sided(t, g, number, pagesOf(c), pagesOf(c)), turn(d, number+1), api.ErrCorrupt)
		}
	}
}

// A slot holds one whatever its state, and whether its pages are sure or not.
func TestReadStates(t *testing.T) {
	for _, number := range []uint32{4, 5} {
		c := checkOf(small, number)
		d := deviceOf(t, small)
		for i, page := range pagesOf(c) {
			wantNoRead(t, d, turn(d, number), api.ErrCorrupt)
			wantNoNewest(t, d, api.ErrCorrupt)
			if _, err := d.Append(turn(d, number), page); err != nil || d.Sure(turn(d, number)) != 0 {
				t.Fatalf("page %d: %v", i, err)
			}
		}
		wantRead(t, d, turn(d, number), c)
		wantNewest(t, d, c)
		wantCode(t, "Finish", d.Finish(turn(d, number)), api.OK)
		wantRead(t, d, turn(d, number), c)
		wantCode(t, "Flush", d.Flush(), api.OK)
		wantNewest(t, d, c)
		wantCode(t, "Reset", d.Reset(turn(d, number)), api.OK)
		wantCorrupt(t, d)
	}
}

// Of one in either slot that one is the newest, whatever its number.
func TestNewestOfOne(t *testing.T) {
	for _, g := range some {
		wantNoNewest(t, deviceOf(t, g), api.ErrCorrupt)
		for _, number := range edges {
			d := deviceOf(t, g)
			wantWrite(t, d, checkOf(g, number), api.OK)
			wantNewest(t, d, checkOf(g, number))
		}
	}
}

// Of two, in both orders: the one behind the other, or else the greater.
func TestNewestOfTwo(t *testing.T) {
	for _, a := range edges {
		for _, b := range edges {
			if a%2 == b%2 {
				continue
			}
			want := b
			if newerOf(a, b) {
				want = a
			}
			d := deviceOf(t, small)
			wantWrite(t, d, checkOf(small, a), api.OK)
			wantWrite(t, d, checkOf(small, b), api.OK)
			wantNewest(t, d, checkOf(small, want))
		}
	}
}

// The same, by hand.
func TestNewestPairs(t *testing.T) {
	for _, c := range []struct{ a, b, newest uint32 }{
		{4, 5, 5}, {5, 6, 6}, {0, 1, 1}, {1, 2, 2}, {0, most, 0}, {most - 1, most, most}, {1, most - 1, most - 1},
		{4, 7, 7}, {4, 1, 4}, {0, 3, 3}, {0, most - 2, most - 2}, {2, most, most}, {1, 1 << 31, 1 << 31},
		{1<<31 - 1, 1 << 31, 1 << 31}, {1 << 31, 1<<31 + 1, 1<<31 + 1}, {1<<31 - 1, 1<<31 + 2, 1<<31 + 2},
		{1<<31 - 2, 1<<31 + 1, 1<<31 + 1}, {0, 1<<31 - 1, 1<<31 - 1}, {0, 1<<31 + 1, 1<<31 + 1}, {1, 1<<31 + 2, 1<<31 + 2},
	} {
		for _, order := range [][2]uint32{{c.a, c.b}, {c.b, c.a}} {
			for _, g := range some {
				d := deviceOf(t, g)
				wantWrite(t, d, checkOf(g, order[0]), api.OK)
				wantWrite(t, d, checkOf(g, order[1]), api.OK)
				wantNewest(t, d, checkOf(g, c.newest))
			}
		}
	}
}

// Two of one device may be of other Blocks, Sessions and Seqs: the Number alone
// tells the newest.
func TestNewestNumberAlone(t *testing.T) {
	for _, numbers := range [][2]uint32{{4, 5}, {5, 6}, {most, 0}} {
		old, c := checkOf(small, numbers[0]), checkOf(geo.Geo{Zones: 11, Pages: 4, Blocks: 1}, numbers[1])
		old.Session, old.Seq, c.Session, c.Seq = most, most, 0, 0
		d := deviceOf(t, small)
		wantWrite(t, d, c, api.OK)
		wantWrite(t, d, old, api.OK)
		wantNewest(t, d, c)
	}
}

// Reading takes nothing of the fuse.
func TestReadingWritesNothing(t *testing.T) {
	d := lying(t, 11, 4, pagesOf(checkOf(small, 4)), pagesOf(checkOf(small, 5)))
	d.Fuse(0)
	was := seen(d)
	for range 5 {
		for zone := -1; zone < 12; zone++ {
			slot.Read(d, zone)
		}
		wantNewest(t, d, checkOf(small, 5))
		wantSeen(t, "reading", d, was)
	}
}

// P15.4

// crashes hands out what each crash of a slot may keep of some pages, and
// whether it tears.
func crashes(g geo.Geo, zone, many int, each func(keep []int, tear []bool)) {
	for kept := -1; kept <= many+1; kept++ {
		for _, torn := range []bool{false, true} {
			keep, tear := slices.Repeat([]int{kept}, g.Zones), slices.Repeat([]bool{torn}, g.Zones)
			each(keep, tear)
			each(keep[:zone+1], tear[:zone+1])
		}
	}
}

// The power goes at each step of a Write, and each crash follows: Newest tells
// the one ahead, or the new one, if all its pages stayed. Then the next Write
// goes on.
func TestCrash(t *testing.T) {
	for _, g := range some {
		for _, number := range []uint32{3, 4, 0, 1, most} {
			c, ahead := checkOf(g, number), checkOf(g, number-1)
			many := len(pagesOf(c))
			for fuse := range many + 3 {
				zone := g.Zones - 2 + int(number%2)
				crashes(g, zone, many, func(keep []int, tear []bool) {
					d := sided(t, g, number, pagesOf(checkOf(g, number-2)), pagesOf(ahead))
					log := seenLog(d)
					d.Fuse(fuse)
					code := fault.Code(slot.Write(d, c))
					d.Crash(keep, tear)
					want := ahead
					if code == api.OK || fuse == many+1 && keep[zone] >= many {
						want = c
					}
					wantNewest(t, d, want)
					wantRead(t, d, turn(d, number-1), ahead)
					wantWords(t, d)
					if got := seenLog(d); got != log {
						t.Fatalf("the log is %q, was %q", got, log)
					}
					wantWrite(t, d, checkOf(g, want.Number+1), api.OK)
					wantNewest(t, d, checkOf(g, want.Number+1))
				})
			}
		}
	}
}

// The first of a device: a crash leaves none, or that one.
func TestCrashFirst(t *testing.T) {
	for _, g := range some {
		for _, number := range []uint32{0, 1, most} {
			c := checkOf(g, number)
			many, zone := len(pagesOf(c)), g.Zones-2+int(number%2)
			for fuse := range many + 3 {
				crashes(g, zone, many, func(keep []int, tear []bool) {
					d := deviceOf(t, g)
					d.Fuse(fuse)
					code := fault.Code(slot.Write(d, c))
					d.Crash(keep, tear)
					if code == api.OK || fuse == many+1 && keep[zone] >= many {
						wantNewest(t, d, c)
						return
					}
					wantNoNewest(t, d, api.ErrCorrupt)
				})
			}
		}
	}
}

// What was written stays behind any crash, and behind many.
func TestCrashBehind(t *testing.T) {
	for _, g := range some {
		d := deviceOf(t, g)
		for number := range uint32(7) {
			c := checkOf(g, number)
			wantWrite(t, d, c, api.OK)
			for _, torn := range []bool{false, true} {
				d.Crash(nil, slices.Repeat([]bool{torn}, g.Zones))
				wantNewest(t, d, c)
				wantRead(t, d, turn(d, number), c)
			}
			if number > 0 {
				wantRead(t, d, turn(d, number-1), checkOf(g, number-1))
			}
		}
	}
}

// The power goes again and again while one is written: the one ahead stays.
func TestCrashAgain(t *testing.T) {
	d := deviceOf(t, small)
	wantWrite(t, d, checkOf(small, 8), api.OK)
	for fuse := range 5 {
		for kept := range 3 {
			d.Fuse(fuse)
			wantWrite(t, d, checkOf(small, 9), api.ErrDown)
			d.Crash([]int{10: kept}, []bool{10: fuse%2 == 0})
			wantNewest(t, d, checkOf(small, 8))
			wantRead(t, d, 9, checkOf(small, 8))
			wantNoRead(t, d, 10, api.ErrCorrupt)
		}
	}
	wantWrite(t, d, checkOf(small, 9), api.OK)
	wantNewest(t, d, checkOf(small, 9))
}

// The log's zones stay as they are, but that a Write's Flush lets them be sure.
func TestLogStays(t *testing.T) {
	for _, g := range some {
		d := lying(t, g.Zones, g.Pages, nil, nil)
		page := leaf{kind: 2, id: 3, block: make([]byte, 16)}.bytes()
		for zone := range g.Zones - 2 {
			if d.State(zone) != zns.Full {
				if _, err := d.Append(zone, page); err != nil {
					t.Fatal(err)
				}
			}
		}
		wantCode(t, "Finish", d.Finish(1), api.OK)
		wantCode(t, "Flush", d.Flush(), api.OK)
		log := seenLog(d)
		for number := range uint32(5) {
			wantWrite(t, d, checkOf(g, number), api.OK)
			slot.Read(d, g.Zones-1)
			slot.Newest(d)
			if got := seenLog(d); got != log {
				t.Fatalf("%v: the log is %q, was %q", g, got, log)
			}
		}
		if _, err := d.Append(0, page); err != nil || d.Sure(0) == d.Point(0) {
			t.Fatalf("%v: %d sure of %d, %v", g, d.Sure(0), d.Point(0), err)
		}
		wantWrite(t, d, checkOf(g, 9), api.OK)
		if d.Sure(0) != d.Point(0) {
			t.Fatalf("%v: %d sure of %d", g, d.Sure(0), d.Point(0))
		}
	}
}

// pair is two devices that are to be the same: one is written by the program,
// one by the document's words.
type pair struct {
	d, other *zns.Device
}

// both asks both devices the same.
func (p pair) both(call func(d *zns.Device)) {
	call(p.d)
	call(p.other)
}

// write writes a checkpoint to both.
func (p pair) write(t *testing.T, c ckpt.Check) {
	t.Helper()
	wantWrite(t, p.d, c, byHand(p.other, c))
}

// want holds the two against each other, and what is read against the words.
func (p pair) want(t *testing.T) {
	t.Helper()
	wantSeen(t, "the device", p.d, seen(p.other))
	if p.d.Down() {
		wantNoRead(t, p.d, p.d.Zones()-2, api.ErrDown)
		wantNoRead(t, p.d, p.d.Zones()-1, api.ErrDown)
		wantNoNewest(t, p.d, api.ErrDown)
		return
	}
	wantWords(t, p.d)
}

// step does one of any calls on both, near a number, and tells the next number.
func (p pair) step(t *testing.T, r *dice, g geo.Geo, number uint32) uint32 {
	t.Helper()
	zone := g.Zones - 1 - r.of(3)
	switch r.of(14) {
	case 0, 1, 2, 3:
		number++
		p.write(t, r.check(g, number))
	case 4:
		p.write(t, r.check(g, number-uint32(r.of(3))))
	case 5:
		number = edges[r.of(len(edges))]
		p.write(t, r.check(g, number))
	case 6:
		p.write(t, r.wrong(g, number))
	case 7, 8:
		n := r.of(8) - 1
		p.both(func(d *zns.Device) { d.Fuse(n) })
	case 9, 10:
		keep, tear := make([]int, g.Zones), make([]bool, g.Zones)
		for z := range g.Zones {
			keep[z], tear[z] = r.of(8)-1, r.of(2) == 0
		}
		p.both(func(d *zns.Device) { d.Crash(keep, tear) })
	case 11:
		c := r.check(g, number+uint32(r.of(3)))
		l := leaves(c)
		at := min(r.of(len(l)+1), len(l)-1)
		p.both(func(d *zns.Device) { d.Append(zone, l[at].bytes()) })
	case 12:
		many := r.of(4)
		l := pagesOf(r.check(g, number+uint32(r.of(2))))
		p.both(func(d *zns.Device) {
			d.Reset(turn(d, number))
			for _, page := range l[:min(many+1, len(l))] {
				d.Append(turn(d, number), page)
			}
		})
	case 13:
		p.both([]func(d *zns.Device){
			func(d *zns.Device) { d.Finish(zone) }, func(d *zns.Device) { d.Reset(zone) }, func(d *zns.Device) { d.Flush() },
		}[r.of(3)])
	}
	return number
}

// wrong tells a checkpoint that the device takes none of.
func (r *dice) wrong(g geo.Geo, number uint32) ckpt.Check {
	c := r.check(g, number)
	switch r.of(4) {
	case 0:
		c.Dir = c.Dir[1:]
	case 1:
		c.Dir = append(c.Dir, 0)
	case 2:
		c.Geo.Zones = 11 + (c.Geo.Zones-11+1+r.of(13))%14
	case 3:
		c.Geo.Pages = 4 + (c.Geo.Pages-4+1+r.of(12))%13
	}
	return c
}

// Any rows of calls, on devices of some sizes, against the document's words.
func TestAnyRows(t *testing.T) {
	r := dice(15)
	for round := range 400 {
		g := some[round%len(some)]
		p := pair{deviceOf(t, g), deviceOf(t, g)}
		number := edges[r.of(len(edges))]
		for range 40 {
			number = p.step(t, &r, g, number)
			p.want(t)
		}
	}
}

// All rows of five of a few calls.
func TestAllRows(t *testing.T) {
	one := geo.Geo{Zones: 11, Pages: 4, Blocks: 1}
	var number uint32
	calls := []func(t *testing.T, p pair){
		func(t *testing.T, p pair) { number++; p.write(t, checkOf(one, number)) },
		func(t *testing.T, p pair) { p.write(t, checkOf(one, number)) },
		func(t *testing.T, p pair) { p.both(func(d *zns.Device) { d.Fuse(2) }) },
		func(t *testing.T, p pair) { p.both(func(d *zns.Device) { d.Fuse(3) }) },
		func(t *testing.T, p pair) {
			p.both(func(d *zns.Device) { d.Crash(nil, slices.Repeat([]bool{true}, 11)) })
		},
		func(t *testing.T, p pair) { p.both(func(d *zns.Device) { d.Crash(slices.Repeat([]int{2}, 11), nil) }) },
	}
	for row := range 6 * 6 * 6 * 6 * 6 {
		p := pair{deviceOf(t, one), deviceOf(t, one)}
		number = most - 2
		for range 5 {
			calls[row%6](t, p)
			row /= 6
		}
		p.want(t)
	}
}

// Slots of any pages, most of them near a checkpoint's, against the words.
func TestAnyPages(t *testing.T) {
	r := dice(16)
	for range 6000 {
		g := small
		number := uint32(r.of(4))
		sides := [2][][]byte{}
		for side := range sides {
			l := leaves(r.check(g, number+uint32(side)))
			for range r.of(3) {
				r.upset(l)
			}
			sides[side] = paged(l)
			if r.of(8) == 0 {
				sides[side] = sides[side][:r.of(len(l))]
			}
		}
		wantWords(t, lying(t, g.Zones, g.Pages, sides[0], sides[1]))
	}
}

// upset changes a thing about pages, or nothing.
func (r *dice) upset(l []leaf) {
	f := &l[r.of(len(l))]
	switch r.of(8) {
	case 0:
		f.kind = byte(1 + r.of(6))
	case 1:
		f.session = uint32(r.of(3))
	case 2:
		f.id = uint32(r.of(3))
	case 3:
		f.seq = uint32(r.of(4))
	case 4:
		f.block[r.of(16)] = byte(r.of(256))
	case 5:
		f.torn = true
	}
}

// Rules that hold everywhere

// R3: an answer stays when another one, or the device, is changed, and other
// answers stay when it is.
func TestAnswersShareNothing(t *testing.T) {
	for _, number := range []uint32{4, 5} {
		c := checkOf(small, number)
		d := deviceOf(t, small)
		wantWrite(t, d, c, api.OK)
		zone := turn(d, number)
		first, _ := slot.Read(d, zone)
		second, _ := slot.Read(d, zone)
		newest, _ := slot.Newest(d)
		clear(first.Dir)
		first.Dir = append(first.Dir[:0], 9, 9, 9)
		if !alike(second, c) || !alike(newest, c) {
			t.Fatalf("%v, %v, want %v", second, newest, c)
		}
		wantRead(t, d, zone, c)
		wantNewest(t, d, c)
		clear(newest.Dir)
		if !alike(second, c) {
			t.Fatalf("%v, want %v", second, c)
		}
		wantRead(t, d, zone, c)
		wantWrite(t, d, checkOf(small, number+2), api.OK)
		wantCode(t, "Reset", d.Reset(zone), api.OK)
		if !alike(second, c) {
			t.Fatalf("%v behind a Reset, want %v", second, c)
		}
	}
}

// R3: a checkpoint that came in is its own, stays as it was, and so does what
// is behind its directory.
func TestArgumentsShareNothing(t *testing.T) {
	for _, number := range []uint32{4, 5} {
		room := []uint32{1, 2, 3, 4, 5, 6, 7, 8}
		c := checkOf(small, number)
		c.Dir = room[2:4]
		want := ckpt.Check{Number: c.Number, Session: c.Session, Seq: c.Seq, Geo: c.Geo, Dir: []uint32{3, 4}}
		d := deviceOf(t, small)
		wantWrite(t, d, c, api.OK)
		if !alike(c, want) || !slices.Equal(room, []uint32{1, 2, 3, 4, 5, 6, 7, 8}) {
			t.Fatalf("%v of %v", c, room)
		}
		was := seen(d)
		clear(room)
		wantSeen(t, "another directory", d, was)
		wantRead(t, d, turn(d, number), want)
		wantNewest(t, d, want)
	}
}

// R5: nothing is kept from call to call but on the device: two devices know
// nothing of each other.
func TestDevicesApart(t *testing.T) {
	a, b := deviceOf(t, small), deviceOf(t, small)
	wantWrite(t, a, checkOf(small, 4), api.OK)
	wantCorrupt(t, b)
	wantWrite(t, b, checkOf(small, 7), api.OK)
	wantNewest(t, a, checkOf(small, 4))
	wantNewest(t, b, checkOf(small, 7))
	a.Fuse(0)
	wantWrite(t, a, checkOf(small, 5), api.ErrDown)
	wantNewest(t, b, checkOf(small, 7))
	wantNoNewest(t, a, api.ErrDown)
	a.Crash(nil, nil)
	wantNewest(t, a, checkOf(small, 4))
}
