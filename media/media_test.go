package media_test

import (
	"bytes"
	"encoding/binary"
	"hash/adler32"
	"math"
	"slices"
	"strconv"
	"strings"
	"testing"

	"platelayer/api"
	"platelayer/fault"
	"platelayer/geo"
	"platelayer/head"
	"platelayer/media"
	"platelayer/zns"
)

// most is the greatest number.
const most = math.MaxUint32

// edges are numbers near the ends of what 32 bits tell, and near what fewer do.
var edges = []uint32{0, 1, 2, 3, 127, 128, 255, 256, 257, 1<<16 - 1, 1 << 16, 1 << 24, 1<<31 - 2, 1<<31 - 1, 1 << 31, 1<<31 + 1, most - 2, most - 1, most}

// far are numbers that no zone has, near the ends of what numbers tell.
var far = []int{math.MinInt, math.MinInt + 1, math.MinInt32 - 1, math.MinInt32, -256, -25, -24, -3, -2, -1, 24, 25, 26, 255, 256, 257, 1<<32 - 1, 1 << 32, 1<<32 + 1, 1<<32 + 9, -1 << 32, math.MaxInt32, math.MaxInt - 1, math.MaxInt}

// small is a device's least geometry, of the most Blocks that fit.
var small = geo.Geo{Zones: 11, Pages: 4, Blocks: 6}

// some are geometries of one Block and of as many as fit, on devices of the
// least and of the most zones and pages, and some between.
var some = []geo.Geo{
	small, {Zones: 11, Pages: 4, Blocks: 1}, {Zones: 24, Pages: 4, Blocks: 16}, {Zones: 11, Pages: 16, Blocks: 25},
	{Zones: 24, Pages: 16, Blocks: 1}, {Zones: 24, Pages: 16, Blocks: 64}, {Zones: 17, Pages: 9, Blocks: 20}, {Zones: 12, Pages: 5, Blocks: 9},
}

// by is text of numbers.
func by(numbers ...int) string {
	var l []string
	for _, n := range numbers {
		l = append(l, strconv.Itoa(n))
	}
	return strings.Join(l, " ")
}

// mayBe tells whether a geometry may be, by the document's words.
func mayBe(g geo.Geo) bool {
	if g.Zones < 11 || g.Zones > 24 || g.Pages < 4 || g.Pages > 16 || g.Blocks < 1 || g.Blocks > 64 {
		return false
	}
	tables := (g.Blocks + 3) / 4
	return tables <= g.Pages && g.Blocks+tables <= (g.Zones-7)*g.Pages/2
}

// leaf is what a page tells. One that is torn tells nothing; one of whose bytes
// one was turned is no page, nor is one of a Kind that may not be.
type leaf struct {
	head.Head
	block  []byte
	torn   bool
	turned bool
}

// fruit is a leaf that may be; all that it tells hangs on a number.
func fruit(n int) leaf {
	h := head.Head{Kind: byte(1 + n%5), Session: uint32(n) * 7, Id: uint32(n), Seq: uint32(n) ^ 0x0c0b0a09}
	return leaf{Head: h, block: bytes.Repeat([]byte{byte(n), byte(n >> 8), byte(n >> 16), 9}, 4)}
}

// bytes are the page's, by the document's words.
func (f leaf) bytes() []byte {
	if f.torn {
		return nil
	}
	top := []byte{f.Kind}
	for _, n := range []uint32{f.Session, f.Id, f.Seq} {
		top = binary.LittleEndian.AppendUint32(top, n)
	}
	total := adler32.Checksum(append(bytes.Clone(top), f.block...))
	page := append(binary.LittleEndian.AppendUint32(top, total), f.block...)
	if f.turned {
		page[int(f.Seq)%33] ^= byte(f.Seq) | 1
	}
	return page
}

// code is the code of what reading the page tells, by the document's words.
func (f leaf) code() api.Errno {
	switch {
	case f.torn:
		return api.ErrTorn
	case f.turned:
		return api.ErrSum
	case f.Kind < 1 || f.Kind > 5:
		return api.ErrForm
	}
	return api.OK
}

// paged are leaves as pages.
func paged(l []leaf) [][]byte {
	var pages [][]byte
	for _, f := range l {
		pages = append(pages, f.bytes())
	}
	return pages
}

// lot is a zone by the document's words.
type lot struct {
	leaves   []leaf
	sure     int
	finished bool
}

// box is a device by the document's words.
type box struct {
	g    geo.Geo
	lots []lot
	fuse int
	ops  int
	down bool
}

// empty is a box of a geometry, without pages.
func empty(g geo.Geo) *box { return &box{g: g, lots: make([]lot, g.Zones), fuse: -1} }

// full tells whether a zone takes no more.
func (b *box) full(zone int) bool {
	l := b.lots[zone]
	return len(l.leaves) == b.g.Pages || l.finished && len(l.leaves) > 0
}

// spend tells the code of a call that takes of the fuse, whose own is that.
func (b *box) spend(own api.Errno) api.Errno {
	switch {
	case b.down:
		return api.ErrDown
	case own != api.OK:
		return own
	case b.fuse == 0:
		b.down = true
		return api.ErrDown
	}
	b.fuse = max(b.fuse-1, -1)
	b.ops++
	return api.OK
}

// append lays a page into a zone that there is.
func (b *box) append(zone int, f leaf) api.Errno {
	code := api.OK
	if b.full(zone) {
		code = api.ErrZone
	}
	if code = b.spend(code); code == api.OK {
		b.lots[zone].leaves = append(slices.Clip(b.lots[zone].leaves), f)
	}
	return code
}

// put is a Put: the address, and the code.
func (b *box) put(zone int, f leaf) (uint32, api.Errno) {
	switch {
	case zone < 0 || zone >= b.g.Zones-2 || f.Kind < 1 || f.Kind > 5:
		return 0, api.ErrArg
	case len(f.block) != 16:
		return 0, api.ErrShort
	}
	page := len(b.lots[zone].leaves)
	if code := b.append(zone, f); code != api.OK {
		return 0, code
	}
	return uint32(1 + zone*b.g.Pages + page), api.OK
}

// reset takes a zone's pages away.
func (b *box) reset(zone int) api.Errno {
	code := b.spend(api.OK)
	if code == api.OK {
		b.lots[zone] = lot{}
	}
	return code
}

// finish ends a zone.
func (b *box) finish(zone int) api.Errno {
	code := api.OK
	if len(b.lots[zone].leaves) == 0 {
		code = api.ErrState
	}
	if code = b.spend(code); code == api.OK {
		b.lots[zone].finished = true
	}
	return code
}

// flush lets all be sure.
func (b *box) flush() api.Errno {
	code := b.spend(api.OK)
	for z := range b.lots {
		if code == api.OK {
			b.lots[z].sure = len(b.lots[z].leaves)
		}
	}
	return code
}

// crash loses what isn't sure.
func (b *box) crash(keep []int, tear []bool) {
	for z := range b.lots {
		l := &b.lots[z]
		stay := l.sure
		if z < len(keep) && keep[z] > 0 {
			stay = min(len(l.leaves), l.sure+keep[z])
		}
		kept := slices.Clip(l.leaves[:stay])
		if stay < len(l.leaves) && z < len(tear) && tear[z] {
			kept = append(kept, leaf{torn: true})
		}
		l.leaves, l.sure = kept, len(kept)
	}
	b.fuse, b.down = -1, false
}

// get is a Get: the page, and the code.
func (b *box) get(a uint32) (leaf, api.Errno) {
	last := uint64(b.g.Zones-2) * uint64(b.g.Pages)
	if a == 0 || uint64(a) > last {
		return leaf{}, api.ErrArg
	}
	if b.down {
		return leaf{}, api.ErrDown
	}
	zone, page := (int(a)-1)/b.g.Pages, (int(a)-1)%b.g.Pages
	if page >= len(b.lots[zone].leaves) {
		return leaf{}, api.ErrNone
	}
	f := b.lots[zone].leaves[page]
	if code := f.code(); code != api.OK {
		return leaf{}, code
	}
	return f, api.OK
}

// scan is a Scan: it goes through the zones, and makes no use of get.
func (b *box) scan() []media.Page {
	var l []media.Page
	for zone := 0; zone < b.g.Zones-2 && !b.down; zone++ {
		for page, f := range b.lots[zone].leaves {
			if f.code() == api.OK {
				l = append(l, media.Page{Addr: uint32(zone*b.g.Pages + page + 1), Head: f.Head})
			}
		}
	}
	return l
}

// device is a device with a box' pages, all of them sure.
func (b *box) device(t *testing.T) *zns.Device {
	t.Helper()
	var l [][][]byte
	for z := range b.lots {
		b.lots[z].sure = len(b.lots[z].leaves)
		l = append(l, paged(b.lots[z].leaves))
	}
	d, err := zns.Load(b.g.Pages, l)
	if err != nil {
		t.Fatal(err)
	}
	return d
}

// newDevice is an empty device.
func newDevice(t *testing.T, zones, pages int) *zns.Device {
	t.Helper()
	d, err := zns.New(zones, pages)
	if err != nil {
		t.Fatal(err)
	}
	return d
}

// seen is all that a device tells, as text; of one whose power is gone no pages.
func seen(d *zns.Device) string {
	var b strings.Builder
	b.WriteString(by(d.Zones(), d.Pages(), d.Ops()) + strconv.FormatBool(d.Down()) + "\n")
	for zone := range d.Zones() {
		b.WriteString(by(zone, d.State(zone), d.Point(zone), d.Sure(zone)))
		for page := range d.Point(zone) {
			got, err := d.Read(zone, page)
			b.WriteString(" " + by(int(fault.Code(err))) + string(got))
		}
		b.WriteString("\n")
	}
	return b.String()
}

// told is all that a box' device tells, as text, by the document's words.
func (b *box) told() string {
	text := by(b.g.Zones, b.g.Pages, b.ops) + strconv.FormatBool(b.down) + "\n"
	for zone, l := range b.lots {
		state := 1
		if len(l.leaves) == 0 {
			state = 0
		} else if b.full(zone) {
			state = 2
		}
		text += by(zone, state, len(l.leaves), l.sure)
		for _, f := range l.leaves {
			switch {
			case b.down:
				text += " 7"
			case f.torn:
				text += " 6"
			default:
				text += " 0" + string(f.bytes())
			}
		}
		text += "\n"
	}
	return text
}

// wantSeen holds all that a device tells against what it is to tell.
func wantSeen(t *testing.T, what string, d *zns.Device, want string) {
	t.Helper()
	if got := seen(d); got != want {
		t.Fatalf("%s: told\n%q\nwant\n%q", what, got, want)
	}
}

// wantCode holds an error against a code; OK stands for none at all.
func wantCode(t *testing.T, what string, err error, want api.Errno) {
	t.Helper()
	if want == api.OK && err != nil {
		t.Fatalf("%s: %v, want none", what, err)
	}
	if want != api.OK && (fault.Code(err) != want || !fault.Is(err, want)) {
		t.Fatalf("%s: %v, want code %d", what, err, want)
	}
}

// wantFits holds Fits against an answer, and that it changes nothing.
func wantFits(t *testing.T, d *zns.Device, g geo.Geo, want bool) {
	t.Helper()
	if got := media.Fits(d, g); got != want {
		t.Fatalf("Fits(%d zones of %d pages, %v) = %v", d.Zones(), d.Pages(), g, got)
	}
}

// wantPut holds a Put of the same into a device and a box against each other.
func wantPut(t *testing.T, d *zns.Device, b *box, zone int, f leaf) uint32 {
	t.Helper()
	what := "Put " + by(zone, int(f.Kind), len(f.block))
	came := bytes.Clone(f.block)
	want, code := b.put(zone, f)
	got, err := media.Put(d, b.g, zone, f.Head, f.block)
	wantCode(t, what, err, code)
	if got != want {
		t.Fatalf("%s = %d, want %d", what, got, want)
	}
	if !bytes.Equal(f.block, came) {
		t.Fatalf("%s: the block is %v, was %v", what, f.block, came)
	}
	return got
}

// wantGet holds a Get of a device against the one of a box.
func wantGet(t *testing.T, d *zns.Device, b *box, a uint32) {
	t.Helper()
	what := "Get " + strconv.Itoa(int(a))
	want, code := b.get(a)
	h, block, err := media.Get(d, b.g, a)
	wantCode(t, what, err, code)
	if h != want.Head || !bytes.Equal(block, want.block) {
		t.Fatalf("%s = %v, %v, want %v, %v", what, h, block, want.Head, want.block)
	}
}

// wantScan holds a Scan of a device against the one of a box.
func wantScan(t *testing.T, d *zns.Device, b *box) {
	t.Helper()
	got, want := media.Scan(d, b.g), b.scan()
	if !slices.Equal(got, want) {
		t.Fatalf("Scan = %v, want %v", got, want)
	}
}

// wantAll holds all that is told of a device against a box, and that asking
// changes nothing.
func wantAll(t *testing.T, d *zns.Device, b *box) {
	t.Helper()
	wantSeen(t, "ahead", d, b.told())
	last := uint32((b.g.Zones - 2) * b.g.Pages)
	for a := range last + 2 {
		wantGet(t, d, b, a)
	}
	wantScan(t, d, b)
	wantFits(t, d, b.g, true)
	wantSeen(t, "asking", d, b.told())
}

// down lets a device's power go, and a box'.
func down(t *testing.T, d *zns.Device, b *box) {
	t.Helper()
	d.Fuse(0)
	b.fuse = 0
	wantCode(t, "Flush", d.Flush(), b.flush())
	if !d.Down() || !b.down {
		t.Fatal("the power is there")
	}
}

// crash lets a device crash, and a box.
func crash(d *zns.Device, b *box, keep []int, tear []bool) {
	d.Crash(keep, tear)
	b.crash(keep, tear)
}

// dice tells numbers by a short rule.
type dice uint32

// of tells one of so many numbers.
func (r *dice) of(many int) int {
	*r = *r*1664525 + 1013904223
	return int(*r>>8) % many
}

// leaf tells a leaf: at times torn, turned, or of a Kind that may not be.
func (r *dice) leaf() leaf {
	f := fruit(r.of(1 << 24))
	f.Session, f.Id, f.Seq = edges[r.of(len(edges))], edges[r.of(len(edges))], uint32(r.of(1<<24))
	switch r.of(12) {
	case 0:
		f = leaf{torn: true}
	case 1:
		f.turned = true
	case 2:
		f.Kind = []byte{0, 6, 7, 128, 255}[r.of(5)]
	}
	return f
}

// box tells a box of a geometry with any pages.
func (r *dice) box(g geo.Geo) *box {
	b := empty(g)
	for z := range b.lots {
		for range r.of(g.Pages + 1) {
			b.lots[z].leaves = append(b.lots[z].leaves, r.leaf())
		}
	}
	return b
}

// P16.1: Fits

// Each device, with geometries around its own zones and pages.
func TestFits(t *testing.T) {
	for zones := 1; zones <= 24; zones++ {
		for pages := 1; pages <= 16; pages++ {
			d := newDevice(t, zones, pages)
			for z := zones - 2; z <= zones+2; z++ {
				for p := pages - 2; p <= pages+2; p++ {
					for _, blocks := range []int{-1, 0, 1, 5, 6, 7, 16, 17, 63, 64, 65} {
						g := geo.Geo{Zones: z, Pages: p, Blocks: blocks}
						wantFits(t, d, g, mayBe(g) && z == zones && p == pages)
					}
				}
			}
		}
	}
}

// A device fits all geometries of its zones and pages that may be, and none
// that may not, nor any of other zones or pages.
func TestFitsAllGeometries(t *testing.T) {
	for _, of := range some {
		d := newDevice(t, of.Zones, of.Pages)
		many := 0
		for zones := 0; zones <= 25; zones++ {
			for pages := 0; pages <= 17; pages++ {
				for blocks := -1; blocks <= 66; blocks++ {
					g := geo.Geo{Zones: zones, Pages: pages, Blocks: blocks}
					want := mayBe(g) && zones == of.Zones && pages == of.Pages
					wantFits(t, d, g, want)
					if want {
						many++
					}
				}
			}
		}
		if many == 0 {
			t.Fatalf("%v fits none", of)
		}
	}
}

// Geometries that differ from the device's in the zones, in the pages, in
// both, or as pages and zones change places.
func TestFitsOthers(t *testing.T) {
	d := newDevice(t, 12, 11)
	wantFits(t, d, geo.Geo{Zones: 12, Pages: 11, Blocks: 5}, true)
	for _, g := range []geo.Geo{
		{Zones: 11, Pages: 11, Blocks: 5}, {Zones: 13, Pages: 11, Blocks: 5}, {Zones: 12, Pages: 10, Blocks: 5}, {Zones: 12, Pages: 12, Blocks: 5},
		{Zones: 11, Pages: 12, Blocks: 5}, {Zones: 11, Pages: 10, Blocks: 5}, {Zones: 14, Pages: 11, Blocks: 5}, {Zones: 24, Pages: 16, Blocks: 5},
		{}, {Zones: 12, Pages: 11}, {Zones: 12}, {Pages: 11}, {Blocks: 5}, {Zones: 1<<32 + 12, Pages: 11, Blocks: 5}, {Zones: 12, Pages: 1<<32 + 11, Blocks: 5},
		{Zones: 12, Pages: 11, Blocks: 1<<32 + 5}, {Zones: 12, Pages: 11, Blocks: math.MaxInt}, {Zones: 12, Pages: 11, Blocks: math.MinInt},
		{Zones: math.MaxInt, Pages: math.MaxInt, Blocks: math.MaxInt}, {Zones: math.MinInt, Pages: math.MinInt, Blocks: math.MinInt}, {Zones: -12, Pages: -11, Blocks: -5},
	} {
		wantFits(t, d, g, false)
	}
}

// It hangs on the zones and the pages alone: not on what lies there, nor on
// the power; it changes nothing.
func TestFitsWhatever(t *testing.T) {
	r := dice(161)
	for _, g := range some {
		b := r.box(g)
		d := b.device(t)
		other := g
		other.Pages++
		for range 2 {
			was := seen(d)
			wantFits(t, d, g, true)
			wantFits(t, d, other, false)
			wantSeen(t, "Fits", d, was)
			down(t, d, b)
			b = empty(g)
		}
	}
}

// P16.1: Put

// The chapter's example.
func TestExample(t *testing.T) {
	d, err := zns.New(11, 4)
	if err != nil {
		t.Fatal(err)
	}
	for _, want := range []uint32{5, 6} {
		got, err := media.Put(d, small, 1, head.Head{Kind: head.Data, Session: 1, Id: 2, Seq: 258}, make([]byte, 16))
		if got != want || err != nil {
			t.Fatalf("Put = %d, %v, want %d", got, err, want)
		}
	}
}

// Each zone of the log takes as many pages as it has, and then none: their
// addresses, and what lies there.
func TestPut(t *testing.T) {
	for _, g := range some {
		d, b := newDevice(t, g.Zones, g.Pages), empty(g)
		next := uint32(1)
		for zone := range g.Zones - 2 {
			for page := range g.Pages {
				if a := wantPut(t, d, b, zone, fruit(zone*100+page)); a != next {
					t.Fatalf("%v: page %d of zone %d is %d, want %d", g, page, zone, a, next)
				}
				next++
			}
			wantPut(t, d, b, zone, fruit(7))
			wantSeen(t, "Put", d, b.told())
		}
		wantAll(t, d, b)
	}
}

// All zones take turns, so that no zone's pages are told by another one's.
func TestPutTurns(t *testing.T) {
	for _, g := range some {
		d, b := newDevice(t, g.Zones, g.Pages), empty(g)
		for page := range g.Pages {
			for zone := g.Zones - 3; zone >= 0; zone-- {
				a := wantPut(t, d, b, zone, fruit(page*50+zone))
				if want := uint32(1 + zone*g.Pages + page); a != want {
					t.Fatalf("%v: %d, want %d", g, a, want)
				}
			}
			wantAll(t, d, b)
		}
	}
}

// Zones that the log hasn't take nothing: slots, those behind them and those
// below 0; nor does it matter what else is wrong with the call.
func TestPutZones(t *testing.T) {
	bad := fruit(3)
	bad.Kind = 0
	short := fruit(4)
	short.block = short.block[:15]
	for _, g := range some {
		b := empty(g)
		for z := range b.lots {
			b.lots[z].leaves = []leaf{fruit(z)}
		}
		d := b.device(t)
		for range 2 {
			for _, zone := range append([]int{g.Zones - 2, g.Zones - 1, g.Zones, g.Zones + 1}, far...) {
				for _, f := range []leaf{fruit(1), bad, short} {
					wantPut(t, d, b, zone, f)
					_, err := media.Put(d, g, zone, f.Head, f.block)
					wantCode(t, "Put "+strconv.Itoa(zone), err, api.ErrArg)
				}
			}
			wantSeen(t, "Put", d, b.told())
			wantPut(t, d, b, g.Zones-3, fruit(5))
			wantPut(t, d, b, 0, fruit(6))
			wantSeen(t, "Put into the log", d, b.told())
			down(t, d, b)
		}
	}
}

// Each Kind that a byte may tell, with a block that may be and one that is too
// short: of a Kind that may not be the head is told first.
func TestPutKinds(t *testing.T) {
	d, b := newDevice(t, 11, 4), empty(small)
	for kind := range 256 {
		f := fruit(kind)
		f.Kind = byte(kind)
		wantPut(t, d, b, kind%9, f)
		f.block = f.block[:kind%16]
		wantPut(t, d, b, kind%9, f)
		want := api.ErrArg
		if kind >= 1 && kind <= 5 {
			want = api.ErrShort
		}
		_, err := media.Put(d, small, 8, f.Head, f.block)
		wantCode(t, "Put "+by(kind), err, want)
	}
	if d.Ops() != 5 {
		t.Fatalf("%d pages were written", d.Ops())
	}
	wantAll(t, d, b)
}

// Blocks of each length, and of none at all.
func TestPutBlocks(t *testing.T) {
	d, b := newDevice(t, 11, 4), empty(small)
	lengths := []int{31, 32, 33, 34, 255, 256, 1<<16 + 16, 1 << 20}
	for many := range 31 {
		lengths = append(lengths, many)
	}
	for _, many := range lengths {
		f := fruit(many)
		f.block = make([]byte, many)
		wantPut(t, d, b, 2, f)
		_, err := media.Put(d, small, 3, f.Head, make([]byte, many))
		if many != 16 {
			wantCode(t, "Put "+by(many), err, api.ErrShort)
		} else {
			b.append(3, f)
		}
	}
	f := fruit(1)
	f.block = nil
	wantPut(t, d, b, 2, f)
	if d.Ops() != 2 {
		t.Fatalf("%d pages were written", d.Ops())
	}
	wantAll(t, d, b)
}

// All that a head and a block tell comes back.
func TestPutNumbers(t *testing.T) {
	for i, n := range edges {
		d, b := newDevice(t, 11, 4), empty(small)
		for kind := byte(1); kind <= 5; kind++ {
			for j, other := range edges {
				f := leaf{Head: head.Head{Kind: kind, Session: n, Id: other, Seq: edges[(i+j)%len(edges)]}, block: bytes.Repeat([]byte{byte(i), byte(j), byte(n), 255 - byte(other)}, 4)}
				zone := (i + j) % 9
				if b.full(zone) {
					wantCode(t, "Reset", d.Reset(zone), b.reset(zone))
				}
				wantGet(t, d, b, wantPut(t, d, b, zone, f))
			}
		}
		wantAll(t, d, b)
	}
}

// What a zone is: empty, open, full, finished, and what each takes; with a
// fuse, and while the power is gone. What is refused changes nothing, and of
// errors of the call those of the arguments are first.
func TestPutStates(t *testing.T) {
	bad, short, long := fruit(2), fruit(3), fruit(4)
	bad.Kind = 6
	short.block = nil
	long.block = append(long.block, 0)
	for _, g := range some {
		for pages := 0; pages <= g.Pages; pages++ {
			for _, finish := range []bool{false, true} {
				for fuse := -1; fuse <= 2; fuse++ {
					b := empty(g)
					for page := range pages {
						b.lots[3].leaves = append(b.lots[3].leaves, fruit(page))
					}
					d := b.device(t)
					if finish {
						wantCode(t, "Finish", d.Finish(3), b.finish(3))
					}
					d.Fuse(fuse)
					b.fuse = fuse
					for _, f := range []leaf{bad, short, long, fruit(5), fruit(6), bad, short, fruit(7), long} {
						wantPut(t, d, b, 3, f)
						wantPut(t, d, b, g.Zones-2, f)
						wantSeen(t, "Put", d, b.told())
					}
					crash(d, b, []int{3: 9}, nil)
					wantAll(t, d, b)
				}
			}
		}
	}
}

// A fuse of none: a Put into a zone that is full is refused for the zone, and
// the power stays; into one that isn't the power goes.
func TestPutFuse(t *testing.T) {
	b := empty(small)
	b.lots[2].leaves = []leaf{fruit(1), fruit(2), fruit(3), fruit(4)}
	d := b.device(t)
	d.Fuse(0)
	for range 3 {
		_, err := media.Put(d, small, 2, fruit(5).Head, fruit(5).block)
		wantCode(t, "full", err, api.ErrZone)
		_, err = media.Put(d, small, 3, fruit(5).Head, nil)
		wantCode(t, "no block", err, api.ErrShort)
		if d.Down() {
			t.Fatal("the power is gone")
		}
	}
	for _, zone := range []int{3, 2, 0} {
		_, err := media.Put(d, small, zone, fruit(5).Head, fruit(5).block)
		wantCode(t, "without power", err, api.ErrDown)
		_, err = media.Put(d, small, zone, head.Head{}, fruit(5).block)
		wantCode(t, "no head", err, api.ErrArg)
		_, err = media.Put(d, small, zone, fruit(5).Head, fruit(5).block[:15])
		wantCode(t, "no block", err, api.ErrShort)
	}
	b.down = true
	wantSeen(t, "without power", d, b.told())
	crash(d, b, nil, nil)
	wantAll(t, d, b)
}

// A Put is one call of the device, and just one page: all others stay.
func TestPutPage(t *testing.T) {
	r := dice(162)
	for range 400 {
		g := some[r.of(len(some))]
		b := r.box(g)
		d, other := b.device(t), b.device(t)
		zone, f := r.of(g.Zones-2), fruit(r.of(1<<24))
		if b.full(zone) {
			continue
		}
		at, err := other.Append(zone, f.bytes())
		wantCode(t, "Append", err, api.OK)
		if a := wantPut(t, d, b, zone, f); a != uint32(zone*g.Pages+at+1) {
			t.Fatalf("%d, of the page %d of the zone %d", a, at, zone)
		}
		wantSeen(t, "Put", d, seen(other))
		if d.Ops() != 1 || d.Sure(zone) != at || d.Point(zone) != at+1 {
			t.Fatalf("%d calls, %d sure, %d pages", d.Ops(), d.Sure(zone), d.Point(zone))
		}
	}
}

// P16.2

// Each address of the log of a device where each page is another one.
func TestGet(t *testing.T) {
	for _, g := range some {
		b := empty(g)
		for z := range b.lots {
			for page := range g.Pages {
				b.lots[z].leaves = append(b.lots[z].leaves, fruit(z*100+page))
			}
		}
		d := b.device(t)
		a := uint32(0)
		for zone := range g.Zones - 2 {
			for page := range g.Pages {
				a++
				want := fruit(zone*100 + page)
				h, block, err := media.Get(d, g, a)
				if h != want.Head || !bytes.Equal(block, want.block) || err != nil {
					t.Fatalf("%v: Get %d = %v, %v, %v, want %v", g, a, h, block, err, want)
				}
			}
		}
		wantAll(t, d, b)
	}
}

// Addresses of no page of the log: 0, those of slots, and all greater ones,
// with the power there and gone.
func TestGetNoAddress(t *testing.T) {
	r := dice(163)
	for _, g := range some {
		b := r.box(g)
		for z := g.Zones - 2; z < g.Zones; z++ {
			b.lots[z].leaves = slices.Repeat([]leaf{fruit(z)}, g.Pages)
		}
		d := b.device(t)
		last := uint32((g.Zones - 2) * g.Pages)
		l := []uint32{0, most, most - 1, 1 << 31, 1<<31 - 1, 1<<31 + 1, 1 << 16, 1 << 24, 1<<24 + 1, most - last, most - uint32(g.Pages)}
		for more := range uint32(3*g.Pages + 600) {
			l = append(l, last+1+more)
		}
		for range 2 {
			was := seen(d)
			for _, a := range l {
				h, block, err := media.Get(d, g, a)
				wantCode(t, "Get "+strconv.Itoa(int(a)), err, api.ErrArg)
				if h != (head.Head{}) || len(block) != 0 {
					t.Fatalf("Get %d = %v, %v", a, h, block)
				}
			}
			wantSeen(t, "Get", d, was)
			wantGet(t, d, b, 1)
			wantGet(t, d, b, last)
			down(t, d, b)
		}
	}
}

// wantNoGet holds that the first page can't be got, and isn't scanned.
func wantNoGet(t *testing.T, what string, d *zns.Device, want api.Errno) {
	t.Helper()
	was := seen(d)
	h, block, err := media.Get(d, small, 1)
	wantCode(t, what, err, want)
	if h != (head.Head{}) || len(block) != 0 {
		t.Fatalf("%s: %v, %v", what, h, block)
	}
	if l := media.Scan(d, small); len(l) > 0 && l[0].Addr == 1 {
		t.Fatalf("%s: %v is scanned", what, l)
	}
	wantSeen(t, what, d, was)
}

// holding is a device whose first page has just those bytes.
func holding(t *testing.T, page []byte) *zns.Device {
	t.Helper()
	d, err := zns.Load(4, append([][][]byte{{page, fruit(8).bytes()}}, make([][][]byte, 10)...))
	if err != nil {
		t.Fatal(err)
	}
	return d
}

// Pages that can't be got: none is written, it is torn, a byte is another one,
// or the Kind may not be. The sum is held ahead of the Kind.
func TestGetNoPage(t *testing.T) {
	wantNoGet(t, "empty", newDevice(t, 11, 4), api.ErrNone)
	wantNoGet(t, "torn", holding(t, nil), api.ErrTorn)
	wantNoGet(t, "torn", holding(t, []byte{}), api.ErrTorn)
	for at := range 33 {
		for _, other := range []byte{1, 2, 128, 255} {
			page := fruit(7).bytes()
			page[at] ^= other
			wantNoGet(t, "byte "+by(at, int(other)), holding(t, page), api.ErrSum)
		}
	}
	for _, kind := range []byte{0, 6, 7, 127, 128, 254, 255} {
		f := fruit(7)
		f.Kind = kind
		wantNoGet(t, "Kind "+by(int(kind)), holding(t, f.bytes()), api.ErrForm)
		f.turned = true
		wantNoGet(t, "Kind and byte "+by(int(kind)), holding(t, f.bytes()), api.ErrSum)
	}
	wantNoGet(t, "all 0", holding(t, make([]byte, 33)), api.ErrSum)
	wantNoGet(t, "all 255", holding(t, bytes.Repeat([]byte{255}, 33)), api.ErrSum)
}

// What is refused at one address is got at the next one.
func TestGetBeside(t *testing.T) {
	for _, page := range [][]byte{nil, make([]byte, 33), fruit(7).bytes()} {
		d := holding(t, page)
		h, block, err := media.Get(d, small, 2)
		if want := fruit(8); h != want.Head || !bytes.Equal(block, want.block) || err != nil {
			t.Fatalf("Get 2 = %v, %v, %v", h, block, err)
		}
		_, _, err = media.Get(d, small, 3)
		wantCode(t, "Get 3", err, api.ErrNone)
	}
}

// While the power is gone, no page of the log is told: written, torn, or none.
func TestGetDown(t *testing.T) {
	r := dice(164)
	for _, g := range some {
		b := r.box(g)
		d := b.device(t)
		was := b.scan()
		down(t, d, b)
		gone := seen(d)
		for a := uint32(1); a <= uint32((g.Zones-2)*g.Pages); a++ {
			h, block, err := media.Get(d, g, a)
			wantCode(t, "Get "+strconv.Itoa(int(a)), err, api.ErrDown)
			if h != (head.Head{}) || len(block) != 0 {
				t.Fatalf("Get %d = %v, %v", a, h, block)
			}
		}
		if l := media.Scan(d, g); len(l) != 0 {
			t.Fatalf("Scan = %v without power", l)
		}
		wantSeen(t, "without power", d, gone)
		crash(d, b, nil, nil)
		wantAll(t, d, b)
		if l := media.Scan(d, g); !slices.Equal(l, was) {
			t.Fatalf("Scan = %v, was %v", l, was)
		}
	}
}

// A fuse of none doesn't keep pages from being read, nor does reading spend.
func TestGetFuse(t *testing.T) {
	r := dice(165)
	b := r.box(small)
	b.lots[4].leaves = nil
	d := b.device(t)
	for _, fuse := range []int{2, 1, 0} {
		d.Fuse(fuse)
		b.fuse = fuse
		for range 3 {
			wantAll(t, d, b)
		}
		for range fuse + 1 {
			wantPut(t, d, b, 4, fruit(9))
		}
		wantAll(t, d, b)
		crash(d, b, nil, nil)
	}
}

// P16.3

func TestScanEmpty(t *testing.T) {
	for _, g := range some {
		d := newDevice(t, g.Zones, g.Pages)
		if l := media.Scan(d, g); len(l) != 0 {
			t.Fatalf("Scan of %v = %v", g, l)
		}
		wantAll(t, d, empty(g))
	}
}

// What lies in slots isn't scanned, and nothing else is left out.
func TestScanSlots(t *testing.T) {
	for _, g := range some {
		b := empty(g)
		for z := g.Zones - 2; z < g.Zones; z++ {
			b.lots[z].leaves = slices.Repeat([]leaf{fruit(z)}, g.Pages)
		}
		d := b.device(t)
		if l := media.Scan(d, g); len(l) != 0 {
			t.Fatalf("Scan of slots = %v", l)
		}
		last := wantPut(t, d, b, g.Zones-3, fruit(1))
		first := wantPut(t, d, b, 0, fruit(2))
		want := []media.Page{{Addr: first, Head: fruit(2).Head}, {Addr: last, Head: fruit(1).Head}}
		if l := media.Scan(d, g); !slices.Equal(l, want) {
			t.Fatalf("Scan = %v, want %v", l, want)
		}
		wantAll(t, d, b)
	}
}

// Behind a page that can't be got its zone is scanned on, and so are all zones
// behind it.
func TestScanBehind(t *testing.T) {
	turned, form := fruit(3), fruit(4)
	turned.turned, form.Kind = true, 6
	for at := range 4 {
		for _, bad := range []leaf{{torn: true}, turned, form} {
			b := empty(small)
			for z := range 9 {
				b.lots[z].leaves = []leaf{fruit(z), fruit(z + 10), fruit(z + 20), fruit(z + 30)}
				b.lots[z].leaves[at] = bad
			}
			d := b.device(t)
			if l := media.Scan(d, small); len(l) != 27 {
				t.Fatalf("%d pages are scanned", len(l))
			}
			wantAll(t, d, b)
		}
	}
}

// Each zone alone has pages, so that empty ones are ahead and behind.
func TestScanOneZone(t *testing.T) {
	for _, g := range some {
		for zone := range g.Zones {
			b := empty(g)
			for page := range g.Pages {
				b.lots[zone].leaves = append(b.lots[zone].leaves, fruit(page))
			}
			wantAll(t, b.device(t), b)
		}
	}
}

// Any pages: a Scan is by addresses, rising, and tells just what Get tells.
func TestScanAny(t *testing.T) {
	r := dice(166)
	for range 600 {
		g := some[r.of(len(some))]
		b := r.box(g)
		d := b.device(t)
		l := media.Scan(d, g)
		if !slices.Equal(l, b.scan()) {
			t.Fatalf("Scan = %v, want %v", l, b.scan())
		}
		var got []media.Page
		for a := range uint32(g.Zones*g.Pages + 3) {
			if h, _, err := media.Get(d, g, a); err == nil {
				got = append(got, media.Page{Addr: a, Head: h})
			}
		}
		if !slices.Equal(l, got) {
			t.Fatalf("Scan = %v, of Get %v", l, got)
		}
	}
}

// All devices of the least size whose first zones have, of each page, one of a
// few: good, torn, turned, or of no Kind.
func TestScanFew(t *testing.T) {
	turned, form := fruit(3), fruit(4)
	turned.turned, form.Kind = true, 0
	few := []leaf{fruit(1), {torn: true}, turned, form}
	for n := range 1 << 8 {
		for many := 0; many <= 4; many++ {
			b := empty(small)
			for page := range 4 {
				f := few[n>>(2*page)&3]
				b.lots[8].leaves = append(b.lots[8].leaves, f)
				if page < many {
					b.lots[5].leaves = append(b.lots[5].leaves, f)
				}
			}
			d := b.device(t)
			wantScan(t, d, b)
			for _, a := range []uint32{21, 22, 23, 24, 33, 34, 35, 36} {
				wantGet(t, d, b, a)
			}
		}
	}
}

// P16.4

// What was put is got and scanned, till its zone is reset.
func TestPutIsGot(t *testing.T) {
	for _, g := range some {
		d, b := newDevice(t, g.Zones, g.Pages), empty(g)
		var want []media.Page
		for zone := range g.Zones - 2 {
			for page := range g.Pages {
				f := fruit(zone*31 + page)
				a := wantPut(t, d, b, zone, f)
				h, block, err := media.Get(d, g, a)
				if h != f.Head || !bytes.Equal(block, f.block) || err != nil {
					t.Fatalf("Get %d = %v, %v, %v", a, h, block, err)
				}
				want = append(want, media.Page{Addr: a, Head: f.Head})
				if got := media.Scan(d, g); !slices.Equal(got, want) {
					t.Fatalf("Scan = %v, want %v", got, want)
				}
			}
		}
		for zone := range g.Zones - 2 {
			wantCode(t, "Reset", d.Reset(zone), b.reset(zone))
			want = want[g.Pages:]
			if got := media.Scan(d, g); !slices.Equal(got, want) {
				t.Fatalf("Scan = %v, want %v", got, want)
			}
			_, _, err := media.Get(d, g, uint32(1+zone*g.Pages))
			wantCode(t, "Get", err, api.ErrNone)
		}
		wantAll(t, d, b)
	}
}

// What was flushed is got behind any crash; of the rest, the pages that stay.
func TestPutCrash(t *testing.T) {
	for sure := range 5 {
		for keep := -1; keep <= 5; keep++ {
			for _, tear := range []bool{false, true} {
				d, b := newDevice(t, 11, 4), empty(small)
				for page := range 4 {
					if page == sure {
						wantCode(t, "Flush", d.Flush(), b.flush())
					}
					wantPut(t, d, b, 6, fruit(page))
				}
				if sure == 4 {
					wantCode(t, "Flush", d.Flush(), b.flush())
				}
				wantAll(t, d, b)
				crash(d, b, []int{6: keep}, []bool{6: tear})
				stay := min(4, sure+max(keep, 0))
				if l := media.Scan(d, small); len(l) != stay || stay > 0 && l[stay-1].Addr != uint32(24+stay) {
					t.Fatalf("%d sure, %d kept: %v", sure, keep, l)
				}
				wantAll(t, d, b)
				wantPut(t, d, b, 6, fruit(9))
				wantAll(t, d, b)
			}
		}
	}
}

// step does one of a few calls to a device and a box.
func step(t *testing.T, d *zns.Device, b *box, n, at int) {
	t.Helper()
	switch n {
	case 0:
		wantPut(t, d, b, 1, fruit(at))
	case 1:
		wantPut(t, d, b, 8, fruit(at+9))
	case 2:
		wantCode(t, "Reset", d.Reset(1), b.reset(1))
	case 3:
		wantCode(t, "Finish", d.Finish(1), b.finish(1))
	case 4:
		wantCode(t, "Flush", d.Flush(), b.flush())
	case 5:
		crash(d, b, nil, []bool{1: true})
	case 6:
		crash(d, b, []int{1: 1, 8: 2}, []bool{8: true})
	case 7:
		d.Fuse(1)
		b.fuse = 1
	}
}

// All rows of five of these.
func TestAllRows(t *testing.T) {
	const many = 8
	for n := range many * many * many * many * many {
		d, b := newDevice(t, 11, 4), empty(small)
		for at := range 5 {
			step(t, d, b, n%many, at)
			n /= many
		}
		wantScan(t, d, b)
		for _, a := range []uint32{5, 6, 7, 8, 33, 34, 35, 36} {
			wantGet(t, d, b, a)
		}
		wantSeen(t, "row", d, b.told())
	}
}

// anyStep does any call to a device and a box.
func anyStep(t *testing.T, d *zns.Device, b *box, r *dice) {
	t.Helper()
	zone := r.of(b.g.Zones)
	switch r.of(16) {
	case 0:
		wantCode(t, "Reset", d.Reset(zone), b.reset(zone))
	case 1:
		wantCode(t, "Finish", d.Finish(zone), b.finish(zone))
	case 2:
		wantCode(t, "Flush", d.Flush(), b.flush())
	case 3:
		n := r.of(12) - 1
		d.Fuse(n)
		b.fuse = n
	case 4:
		keep, tear := make([]int, r.of(b.g.Zones+2)), make([]bool, r.of(b.g.Zones+2))
		for i := range keep {
			keep[i] = r.of(6) - 1
		}
		for i := range tear {
			tear[i] = r.of(2) == 0
		}
		crash(d, b, keep, tear)
	case 5:
		f := r.leaf()
		if f.torn {
			f = leaf{Head: head.Head{Kind: 9}, block: make([]byte, 16)}
		}
		_, err := d.Append(zone, f.bytes())
		wantCode(t, "Append", err, b.append(zone, f))
	case 6:
		f := r.leaf()
		f.torn, f.turned, f.block = false, false, make([]byte, r.of(20))
		wantPut(t, d, b, zone-1+r.of(3), f)
	default:
		f := fruit(r.of(1 << 24))
		wantPut(t, d, b, zone, f)
	}
}

// Any calls in any order, on all sizes.
func TestAnyRows(t *testing.T) {
	r := dice(167)
	for range 160 {
		g := some[r.of(len(some))]
		b := r.box(g)
		d := b.device(t)
		for range 120 {
			anyStep(t, d, b, &r)
			wantGet(t, d, b, uint32(r.of(g.Zones*g.Pages+2)))
			if r.of(4) == 0 {
				wantScan(t, d, b)
			}
		}
		wantAll(t, d, b)
	}
}

// Rules

// R1: of devices that don't fit nothing is said: no call panics, each ends, and
// nothing is written.
func TestOtherDevices(t *testing.T) {
	r := dice(168)
	for _, of := range some {
		b := r.box(of)
		d := b.device(t)
		was := seen(d)
		for _, g := range []geo.Geo{
			{}, {Zones: of.Zones, Pages: of.Pages}, {Zones: of.Zones, Pages: of.Pages, Blocks: 65}, {Zones: of.Zones, Blocks: 1}, {Pages: of.Pages, Blocks: 1},
			{Zones: of.Zones - 1, Pages: of.Pages, Blocks: 1}, {Zones: of.Zones + 1, Pages: of.Pages, Blocks: 1}, {Zones: of.Zones, Pages: of.Pages - 1, Blocks: 1},
			{Zones: of.Zones, Pages: of.Pages + 1, Blocks: 1}, {Zones: math.MaxInt, Pages: math.MaxInt, Blocks: math.MaxInt}, {Zones: math.MinInt, Pages: math.MinInt, Blocks: 1},
			{Zones: math.MaxInt, Pages: 4, Blocks: 6}, {Zones: 11, Pages: math.MaxInt, Blocks: 6}, {Zones: -11, Pages: -4, Blocks: -6}, {Zones: 3, Pages: -1, Blocks: 1},
		} {
			for _, zone := range append([]int{0, 1, 9, of.Zones - 3}, far...) {
				if a, err := media.Put(d, g, zone, fruit(1).Head, fruit(1).block); a != 0 || fault.Code(err) != api.ErrArg {
					t.Fatalf("%v: Put = %d, %v", g, a, err)
				}
			}
			for _, a := range append([]uint32{4, 5, 36, 37}, edges...) {
				if h, block, err := media.Get(d, g, a); h != (head.Head{}) || len(block) != 0 || fault.Code(err) != api.ErrArg {
					t.Fatalf("%v: Get = %v, %v, %v", g, h, block, err)
				}
			}
			if l := media.Scan(d, g); len(l) != 0 {
				t.Fatalf("%v: Scan = %v", g, l)
			}
			wantFits(t, d, g, false)
			wantSeen(t, "another geometry", d, was)
		}
	}
}

// R3: an answer is its own: no other one changes with it, nor the device; and
// it stays whatever the device does.
func TestAnswersShareNothing(t *testing.T) {
	d, b := newDevice(t, 11, 4), empty(small)
	a := wantPut(t, d, b, 1, fruit(3))
	wantPut(t, d, b, 2, fruit(4))
	was := seen(d)
	h, first, _ := media.Get(d, small, a)
	_, second, _ := media.Get(d, small, a)
	clear(first)
	first = append(first, 1, 2, 3)
	clear(first[:cap(first)])
	if !bytes.Equal(second, fruit(3).block) {
		t.Fatalf("the other block is %v", second)
	}
	l, other := media.Scan(d, small), media.Scan(d, small)
	clear(l)
	clear(append(l[:0], l[:cap(l)]...))
	if !slices.Equal(other, b.scan()) {
		t.Fatalf("the other Scan is %v", other)
	}
	wantSeen(t, "answers", d, was)
	wantAll(t, d, b)
	wantCode(t, "Reset", d.Reset(1), b.reset(1))
	wantPut(t, d, b, 1, fruit(5))
	if !bytes.Equal(second, fruit(3).block) || h != fruit(3).Head || other[0] != (media.Page{Addr: 5, Head: fruit(3).Head}) {
		t.Fatalf("%v, %v, %v behind a Reset", second, h, other)
	}
}

// R3: a block that came in is its own, stays as it was, and so does what is
// behind it.
func TestArgumentsShareNothing(t *testing.T) {
	d, b := newDevice(t, 11, 4), empty(small)
	room := bytes.Repeat([]byte{7}, 40)
	f := leaf{Head: head.Head{Kind: 1, Id: 3}, block: room[4:20]}
	kept := leaf{Head: f.Head, block: bytes.Clone(f.block)}
	a, err := media.Put(d, small, 1, f.Head, f.block)
	wantCode(t, "Put", err, api.OK)
	if want, _ := b.put(1, kept); a != want || !bytes.Equal(room, bytes.Repeat([]byte{7}, 40)) {
		t.Fatalf("%d, and the block's room is %v", a, room)
	}
	clear(room)
	wantAll(t, d, b)
	for i := range room {
		room[i] = byte(i)
	}
	_, block, _ := media.Get(d, small, a)
	if !bytes.Equal(block, kept.block) {
		t.Fatalf("%v, want %v", block, kept.block)
	}
	wantAll(t, d, b)
}

// R4, R5: nothing is kept from call to call but on the device: two devices know
// nothing of each other, and the same calls answer the same.
func TestDevicesApart(t *testing.T) {
	d, b := newDevice(t, 11, 4), empty(small)
	other, box := newDevice(t, 24, 16), empty(geo.Geo{Zones: 24, Pages: 16, Blocks: 64})
	for n := range 12 {
		wantPut(t, d, b, n%3, fruit(n))
		wantPut(t, other, box, 21-n%2, fruit(n+50))
		wantAll(t, d, b)
		wantAll(t, other, box)
	}
	down(t, d, b)
	wantPut(t, d, b, 5, fruit(1))
	wantPut(t, other, box, 5, fruit(1))
	wantAll(t, d, b)
	wantAll(t, other, box)
	crash(d, b, []int{1, 1, 1}, []bool{true})
	wantAll(t, d, b)
	wantAll(t, d, b)
	wantAll(t, other, box)
}
