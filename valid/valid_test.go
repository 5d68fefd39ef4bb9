package valid_test

import (
	"math"
	"slices"
	"testing"

	"platelayer/api"
	"platelayer/fault"
	"platelayer/geo"
	"platelayer/valid"
)

// farAddrs are addresses of no page of any log, the greatest of which has 352:
// some are as addresses are, but for their upper bits.
var farAddrs = []uint32{0, 353, 354, 384, 385, 512, 513, 1 << 16, 1<<16 + 1, 1<<16 + 5, 1<<31 - 1, 1 << 31, 1<<31 + 1, 1<<31 + 5, math.MaxUint32 - 4, math.MaxUint32 - 1, math.MaxUint32}

// farZones are numbers of zones that no log has: some are as zones are, but for
// their upper bits, or but for their sign.
var farZones = []int{math.MinInt, math.MinInt + 1, math.MinInt32, -1 << 32, -1<<32 + 1, -256, -24, -22, -9, -8, -2, -1, 22, 23, 24, 25, 64, 256, 257, 1 << 16, math.MaxInt32, 1 << 31, math.MaxUint32, 1 << 32, 1<<32 + 1, 1<<32 + 8, 1 << 60, math.MaxInt/4 + 1, math.MaxInt/16 + 1, math.MaxInt - 1, math.MaxInt}

// boundOf is the bound as chapter 2's words say it, looked for from below.
func boundOf(zones, pages int) int {
	if zones < 11 || zones > 24 || pages < 4 || pages > 16 {
		return 0
	}
	bound := 0
	for blocks := 1; blocks <= 64; blocks++ {
		if tables := (blocks + 3) / 4; tables <= pages && 2*(blocks+tables) <= (zones-7)*pages {
			bound = blocks
		}
	}
	return bound
}

// of is a geometry of so many zones and pages, with as many blocks as may be.
func of(zones, pages int) geo.Geo {
	return geo.Geo{Zones: zones, Pages: pages, Blocks: boundOf(zones, pages)}
}

// edges are the geometries at the edges of what may be, but for their blocks.
func edges() []geo.Geo {
	return []geo.Geo{of(11, 4), of(11, 16), of(24, 4), of(24, 16)}
}

func newSet(t *testing.T, g geo.Geo) *valid.Set {
	t.Helper()
	s, err := valid.New(g)
	if err != nil || s == nil {
		t.Fatalf("New(%+v) = %v, %v", g, s, err)
	}
	return s
}

func wantNoNew(t *testing.T, g geo.Geo) {
	t.Helper()
	s, err := valid.New(g)
	if s != nil || fault.Code(err) != api.ErrArg || !fault.Is(err, api.ErrArg) {
		t.Fatalf("New(%+v) = %v, %v", g, s, err)
	}
}

func wantMark(t *testing.T, s *valid.Set, a uint32, want bool) {
	t.Helper()
	if got := s.Mark(a); got != want {
		t.Fatalf("Mark(%d) = %v", a, got)
	}
}

func wantUnmark(t *testing.T, s *valid.Set, a uint32, want bool) {
	t.Helper()
	if got := s.Unmark(a); got != want {
		t.Fatalf("Unmark(%d) = %v", a, got)
	}
}

func wantLive(t *testing.T, s *valid.Set, a uint32, want bool) {
	t.Helper()
	if got := s.Live(a); got != want {
		t.Fatalf("Live(%d) = %v", a, got)
	}
}

// wantOf holds which pages of a zone are live, and how many.
func wantOf(t *testing.T, s *valid.Set, zone int, want ...uint32) {
	t.Helper()
	if got := s.Of(zone); !slices.Equal(got, want) {
		t.Fatalf("Of(%d) = %v, want %v", zone, got, want)
	}
	if got := s.Count(zone); got != len(want) {
		t.Fatalf("Count(%d) = %d, want %d", zone, got, len(want))
	}
}

func wantTotal(t *testing.T, s *valid.Set, want int) {
	t.Helper()
	if got := s.Total(); got != want {
		t.Fatalf("Total() = %d, want %d", got, want)
	}
}

func wantBare(t *testing.T, s *valid.Set, want ...int) {
	t.Helper()
	if got := s.Bare(); !slices.Equal(got, want) {
		t.Fatalf("Bare() = %v, want %v", got, want)
	}
}

// other is a set by the document's words alone: the addresses that are live, in
// the order in which they were marked.
type other struct {
	g    geo.Geo
	live []uint32
}

// last tells the last page's address: those of the log's pages are 1 and on.
func (o *other) last() uint32 { return uint32((o.g.Zones - 2) * o.g.Pages) }

func (o *other) mark(a uint32) bool {
	if a < 1 || a > o.last() || slices.Contains(o.live, a) {
		return false
	}
	o.live = append(o.live, a)
	return true
}

func (o *other) unmark(a uint32) bool {
	at := slices.Index(o.live, a)
	if at < 0 {
		return false
	}
	o.live = slices.Delete(o.live, at, at+1)
	return true
}

// of tells a zone's live addresses: a zone's addresses follow those of the zone
// ahead.
func (o *other) of(zone int) []uint32 {
	if zone < 0 || zone >= o.g.Zones-2 {
		return nil
	}
	var l []uint32
	first := uint32(1 + zone*o.g.Pages)
	for a := first; a < first+uint32(o.g.Pages); a++ {
		if slices.Contains(o.live, a) {
			l = append(l, a)
		}
	}
	return l
}

func (o *other) bare() []int {
	var l []int
	for zone := range o.g.Zones - 2 {
		if len(o.of(zone)) == 0 {
			l = append(l, zone)
		}
	}
	return l
}

// both is a set beside the other one. Each call is done on both.
type both struct {
	t *testing.T
	s *valid.Set
	o *other
}

func newBoth(t *testing.T, g geo.Geo) both {
	t.Helper()
	return both{t, newSet(t, g), &other{g: g}}
}

// mark marks a page in both, and holds how many are live.
func (b both) mark(a uint32) {
	b.t.Helper()
	wantMark(b.t, b.s, a, b.o.mark(a))
	b.like(a)
}

// unmark does likewise.
func (b both) unmark(a uint32) {
	b.t.Helper()
	wantUnmark(b.t, b.s, a, b.o.unmark(a))
	b.like(a)
}

// like holds that both tell the same of a page, and of all zones together.
func (b both) like(a uint32) {
	b.t.Helper()
	wantLive(b.t, b.s, a, slices.Contains(b.o.live, a))
	wantTotal(b.t, b.s, len(b.o.live))
	wantBare(b.t, b.s, b.o.bare()...)
}

// alike holds that both tell the same of each page and of each zone too.
func (b both) alike() {
	b.t.Helper()
	for a := range b.o.last() + 2*uint32(b.o.g.Pages) + 3 {
		wantLive(b.t, b.s, a, slices.Contains(b.o.live, a))
	}
	for zone := -2; zone < b.o.g.Zones+2; zone++ {
		wantOf(b.t, b.s, zone, b.o.of(zone)...)
	}
	b.like(0)
}

// nothing holds that addresses of no page, and numbers of no zone, tell and do
// nothing.
func (b both) nothing() {
	b.t.Helper()
	last := b.o.last()
	for _, a := range append([]uint32{last + 1, last + 2, last + uint32(b.o.g.Pages), last + uint32(2*b.o.g.Pages)}, farAddrs...) {
		wantLive(b.t, b.s, a, false)
		wantUnmark(b.t, b.s, a, false)
		wantMark(b.t, b.s, a, false)
		wantLive(b.t, b.s, a, false)
		wantUnmark(b.t, b.s, a, false)
	}
	for _, zone := range append([]int{b.o.g.Zones - 2, b.o.g.Zones - 1, b.o.g.Zones}, farZones...) {
		wantOf(b.t, b.s, zone)
	}
	b.like(0)
}

// P11.1

func TestNew(t *testing.T) {
	for zones := 11; zones <= 24; zones++ {
		for pages := 4; pages <= 16; pages++ {
			for blocks := 1; blocks <= boundOf(zones, pages); blocks++ {
				b := newBoth(t, geo.Geo{Zones: zones, Pages: pages, Blocks: blocks})
				b.like(1)
			}
			b := newBoth(t, of(zones, pages))
			b.alike()
			for a := range b.o.last() + 2 {
				b.unmark(a)
			}
			b.nothing()
			b.alike()
		}
	}
}

func TestNewOfWhatMayNotBe(t *testing.T) {
	for _, g := range []geo.Geo{
		{},
		{Zones: 11, Pages: 4, Blocks: 0}, {Zones: 11, Pages: 4, Blocks: 7}, {Zones: 11, Pages: 4, Blocks: -1},
		{Zones: 10, Pages: 4, Blocks: 1}, {Zones: 11, Pages: 3, Blocks: 1}, {Zones: 4, Pages: 11, Blocks: 1},
		{Zones: 24, Pages: 16, Blocks: 65}, {Zones: 25, Pages: 16, Blocks: 64}, {Zones: 24, Pages: 17, Blocks: 64},
		{Zones: 24, Pages: 4, Blocks: 17}, {Zones: 11, Pages: 16, Blocks: 26}, {Zones: 24, Pages: 16, Blocks: 0},
		{Zones: 2, Pages: 4, Blocks: 1}, {Zones: 1, Pages: 4, Blocks: 1}, {Zones: 0, Pages: 0, Blocks: 1},
		{Zones: -11, Pages: -4, Blocks: -6}, {Zones: 1<<32 + 11, Pages: 1<<32 + 4, Blocks: 1<<32 + 1},
		{Zones: math.MaxInt, Pages: math.MaxInt, Blocks: math.MaxInt}, {Zones: math.MinInt, Pages: math.MinInt, Blocks: math.MinInt},
		{Zones: math.MaxInt, Pages: 4, Blocks: 1}, {Zones: 11, Pages: math.MaxInt, Blocks: 1}, {Zones: 11, Pages: 4, Blocks: math.MaxInt},
		{Zones: math.MinInt, Pages: 4, Blocks: 1}, {Zones: 11, Pages: math.MinInt, Blocks: 1}, {Zones: 11, Pages: 4, Blocks: math.MinInt},
	} {
		wantNoNew(t, g)
	}
	for zones := -1; zones <= 26; zones++ {
		for pages := -1; pages <= 18; pages++ {
			bound := boundOf(zones, pages)
			for blocks := -2; blocks <= 66; blocks++ {
				if g := (geo.Geo{Zones: zones, Pages: pages, Blocks: blocks}); blocks < 1 || blocks > bound {
					wantNoNew(t, g)
				}
			}
		}
	}
}

// Each page's address, marked and unmarked alone, twice each.
func TestMarkAndUnmarkOfOne(t *testing.T) {
	for _, g := range edges() {
		s := newSet(t, g)
		last := uint32((g.Zones - 2) * g.Pages)
		for a := uint32(1); a <= last; a++ {
			zone := int(a-1) / g.Pages
			wantLive(t, s, a, false)
			wantUnmark(t, s, a, false)
			wantMark(t, s, a, true)
			wantLive(t, s, a, true)
			wantMark(t, s, a, false)
			wantLive(t, s, a, true)
			wantOf(t, s, zone, a)
			wantTotal(t, s, 1)
			for _, next := range []uint32{a - 1, a + 1, a + uint32(g.Pages), a - uint32(g.Pages)} {
				wantLive(t, s, next, false)
				wantUnmark(t, s, next, false)
			}
			wantUnmark(t, s, a, true)
			wantLive(t, s, a, false)
			wantUnmark(t, s, a, false)
			wantOf(t, s, zone)
			wantTotal(t, s, 0)
		}
		wantMark(t, s, 0, false)
		wantMark(t, s, last+1, false)
		wantMark(t, s, math.MaxUint32, false)
	}
}

// A log of 9 zones of 4 pages has the addresses from 1 to 36; one of 22 zones of
// 16 those from 1 to 352.
func TestFirstAndLastPage(t *testing.T) {
	for _, c := range []struct {
		g                geo.Geo
		last, firstOfEnd uint32
		end              int
	}{
		{of(11, 4), 36, 33, 8},
		{of(11, 16), 144, 129, 8},
		{of(24, 4), 88, 85, 21},
		{of(24, 16), 352, 337, 21},
	} {
		s := newSet(t, c.g)
		wantMark(t, s, 0, false)
		wantMark(t, s, 1, true)
		wantMark(t, s, c.last+1, false)
		wantMark(t, s, c.last, true)
		wantMark(t, s, c.firstOfEnd, true)
		wantMark(t, s, c.firstOfEnd-1, true)
		wantMark(t, s, 4294967295, false)
		wantLive(t, s, 0, false)
		wantLive(t, s, 1, true)
		wantLive(t, s, c.last, true)
		wantLive(t, s, c.last+1, false)
		wantLive(t, s, 4294967295, false)
		wantOf(t, s, 0, 1)
		wantOf(t, s, c.end, c.firstOfEnd, c.last)
		wantOf(t, s, c.end-1, c.firstOfEnd-1)
		wantOf(t, s, c.end+1)
		wantTotal(t, s, 4)
		wantUnmark(t, s, 0, false)
		wantUnmark(t, s, c.last+1, false)
		wantUnmark(t, s, 4294967295, false)
		wantUnmark(t, s, 1, true)
		wantUnmark(t, s, c.last, true)
		wantOf(t, s, 0)
		wantOf(t, s, c.end, c.firstOfEnd)
		wantTotal(t, s, 2)
	}
}

// The chapter's example.
func TestExample(t *testing.T) {
	s := newSet(t, geo.Geo{Zones: 11, Pages: 4, Blocks: 6})
	wantMark(t, s, 5, true)
	wantMark(t, s, 8, true)
	wantOf(t, s, 1, 5, 8)
	wantTotal(t, s, 2)
	wantBare(t, s, 0, 2, 3, 4, 5, 6, 7, 8)
}

// P11.2

// All pages are marked, one behind the other, and unmarked; at each step each
// zone tells what is told of it by hand.
func TestAllPagesOfAllZones(t *testing.T) {
	for _, g := range edges() {
		b := newBoth(t, g)
		last := b.o.last()
		for a := uint32(1); a <= last; a++ {
			b.mark(a)
			zone, many := int(a-1)/g.Pages, int(a-1)%g.Pages+1
			if got := b.s.Count(zone); got != many {
				t.Fatalf("%+v: Count(%d) = %d, want %d", g, zone, got, many)
			}
		}
		wantBare(t, b.s)
		wantTotal(t, b.s, (g.Zones-2)*g.Pages)
		b.alike()
		b.nothing()
		for a := uint32(1); a <= last; a++ {
			b.mark(a)
		}
		b.alike()
		for a := uint32(1); a <= last; a++ {
			b.unmark(last + 1 - a)
		}
		b.alike()
		b.nothing()
	}
}

// One zone is full, and all others are bare.
func TestAllPagesOfAZone(t *testing.T) {
	for _, g := range edges() {
		for zone := range g.Zones - 2 {
			b := newBoth(t, g)
			for page := range g.Pages {
				b.mark(uint32(1 + zone*g.Pages + page))
			}
			if got := b.s.Count(zone); got != g.Pages || b.s.Total() != g.Pages || len(b.s.Bare()) != g.Zones-3 {
				t.Fatalf("%+v: Count(%d) = %d, Total() = %d", g, zone, got, b.s.Total())
			}
			b.alike()
			b.nothing()
		}
	}
}

// A zone of which one page isn't live isn't bare, nor is one of which one is.
func TestBare(t *testing.T) {
	for _, g := range edges() {
		s := newSet(t, g)
		var all []int
		for zone := range g.Zones - 2 {
			all = append(all, zone)
		}
		wantBare(t, s, all...)
		for _, zone := range slices.Backward(all) {
			wantMark(t, s, uint32((zone+1)*g.Pages), true)
			wantBare(t, s, all[:zone]...)
		}
		for zone := range all {
			wantUnmark(t, s, uint32((zone+1)*g.Pages), true)
			wantBare(t, s, all[:zone+1]...)
		}
	}
}

// Of rises in whatever order pages were marked: all orders of a zone of four
// pages, and some of one of sixteen.
func TestOfRises(t *testing.T) {
	for order := range 4 * 4 * 4 * 4 {
		b := newBoth(t, of(11, 4))
		for range 4 {
			b.mark(uint32(13 + order%4))
			order /= 4
		}
		b.alike()
	}
	for _, step := range []int{1, 3, 5, 7, 9, 11, 13, 15} {
		b := newBoth(t, of(12, 16))
		for n := range 16 {
			b.mark(uint32(33 + n*step%16))
			wantOf(t, b.s, 2, b.o.of(2)...)
		}
		wantOf(t, b.s, 2, 33, 34, 35, 36, 37, 38, 39, 40, 41, 42, 43, 44, 45, 46, 47, 48)
		b.alike()
	}
}

// A zone's pages don't tell of the zones next to it, however many pages it has.
func TestZonesNextToOneAnother(t *testing.T) {
	for pages := 4; pages <= 16; pages++ {
		b := newBoth(t, of(13, pages))
		for zone := 1; zone < 11; zone += 2 {
			b.mark(uint32(zone * pages))
			b.mark(uint32(zone*pages + 1))
			b.mark(uint32((zone+1)*pages - 1))
			b.alike()
		}
		for zone := 1; zone < 11; zone += 2 {
			b.unmark(uint32(zone*pages + 1))
			b.alike()
		}
	}
}

// P11.3

// What was marked is live, whatever else is marked and unmarked.
func TestMarkedStays(t *testing.T) {
	for _, g := range edges() {
		r := dice(g.Zones)
		b := newBoth(t, g)
		for _, stays := range []uint32{1, uint32(g.Pages), uint32(g.Pages) + 1, b.o.last()} {
			b.mark(stays)
			for range 300 {
				a := r.addr(b.o.last())
				switch {
				case a == stays:
					b.mark(a)
				case r.of(2) == 0:
					b.mark(a)
				default:
					b.unmark(a)
				}
				wantLive(t, b.s, stays, true)
				if zone := int(stays-1) / g.Pages; !slices.Contains(b.s.Of(zone), stays) || slices.Contains(b.s.Bare(), zone) {
					t.Fatalf("%+v: %d isn't told: Of(%d) = %v", g, stays, zone, b.s.Of(zone))
				}
			}
			b.unmark(stays)
			wantLive(t, b.s, stays, false)
			b.alike()
		}
	}
}

// dice tells numbers by a short rule.
type dice uint32

// of tells one of so many numbers.
func (r *dice) of(many int) int {
	*r = *r*1664525 + 1013904223
	return int(*r>>8) % many
}

// addr tells an address up to a last one, or at times one of no page.
func (r *dice) addr(last uint32) uint32 {
	switch r.of(16) {
	case 0:
		return farAddrs[r.of(len(farAddrs))]
	case 1:
		return last + uint32(r.of(3))
	}
	return uint32(r.of(int(last)+1)) + 1
}

// Many calls, of which some mark more than they unmark, and some less, on all
// sizes.
func TestAnyCalls(t *testing.T) {
	for zones := 11; zones <= 24; zones++ {
		for pages := 4; pages <= 16; pages++ {
			r := dice(zones*100 + pages)
			b := newBoth(t, of(zones, pages))
			for _, marks := range []int{7, 5, 2} {
				for range 100 {
					if a := r.addr(b.o.last()); r.of(8) < marks {
						b.mark(a)
					} else {
						b.unmark(a)
					}
				}
				b.alike()
			}
			b.nothing()
		}
	}
}

// All rows of four calls of a few, on the pages at two zones' edges and on some
// of none.
func TestAllRowsOfFewCalls(t *testing.T) {
	addrs := []uint32{0, 1, 4, 5, 8, 36, 37}
	calls := 2 * len(addrs)
	for row := range calls * calls * calls * calls {
		b := newBoth(t, of(11, 4))
		for range 4 {
			a := addrs[row%calls/2]
			if row%2 == 0 {
				b.mark(a)
			} else {
				b.unmark(a)
			}
			row /= calls
		}
		for _, zone := range []int{-1, 0, 1, 8, 9} {
			wantOf(t, b.s, zone, b.o.of(zone)...)
		}
	}
}

// R3: what is told shares nothing with what is kept, nor with what is told
// anew.

func TestAnswersAreNotKept(t *testing.T) {
	s := newSet(t, of(11, 4))
	for _, a := range []uint32{8, 5, 7, 36} {
		wantMark(t, s, a, true)
	}
	holds := func() {
		t.Helper()
		wantOf(t, s, 1, 5, 7, 8)
		wantOf(t, s, 8, 36)
		wantOf(t, s, 0)
		wantTotal(t, s, 4)
		wantBare(t, s, 0, 2, 3, 4, 5, 6, 7)
		wantLive(t, s, 6, false)
	}
	first, second := s.Of(1), s.Of(1)
	for i := range first {
		first[i] = 6
	}
	_ = append(first, 1, 2)
	_ = append(first[:0], 9, 9, 9, 9)
	if !slices.Equal(second, []uint32{5, 7, 8}) {
		t.Fatalf("%v", second)
	}
	holds()
	bare, other := s.Bare(), s.Bare()
	for i := range bare {
		bare[i] = 1
	}
	_ = append(bare, 8, 9)
	_ = append(bare[:0], 1, 1, 1, 1, 1, 1, 1, 1)
	if !slices.Equal(other, []int{0, 2, 3, 4, 5, 6, 7}) {
		t.Fatalf("%v", other)
	}
	holds()
}

// An answer stays as it is, whatever call follows it.
func TestAnswersStay(t *testing.T) {
	s := newSet(t, of(11, 4))
	for _, a := range []uint32{8, 5, 7, 36} {
		wantMark(t, s, a, true)
	}
	of, bare := s.Of(1), s.Bare()
	holds := func() {
		t.Helper()
		if !slices.Equal(of, []uint32{5, 7, 8}) || !slices.Equal(bare, []int{0, 2, 3, 4, 5, 6, 7}) {
			t.Fatalf("Of: %v, Bare: %v", of, bare)
		}
	}
	for a := range uint32(38) {
		s.Mark(a)
		s.Of(int(a))
		s.Bare()
		holds()
	}
	for a := range uint32(38) {
		s.Unmark(a)
		s.Of(int(a))
		s.Bare()
		holds()
	}
	wantTotal(t, s, 0)
	holds()
}

// Sets know nothing of one another.
func TestSetsStandAlone(t *testing.T) {
	a, b, c := newSet(t, of(11, 4)), newSet(t, of(11, 4)), newSet(t, of(24, 16))
	wantMark(t, a, 5, true)
	wantMark(t, b, 6, true)
	wantMark(t, c, 37, true)
	wantMark(t, a, 37, false)
	wantUnmark(t, b, 5, false)
	wantOf(t, a, 1, 5)
	wantOf(t, b, 1, 6)
	wantOf(t, c, 1)
	wantOf(t, c, 2, 37)
	wantUnmark(t, a, 5, true)
	wantTotal(t, a, 0)
	wantTotal(t, b, 1)
	wantTotal(t, c, 1)
}
