package geo_test

import (
	"math"
	"testing"

	"platelayer/api"
	"platelayer/geo"
)

// tablesOf counts map pages one by one, Each blocks by one.
func tablesOf(blocks int) int {
	tables := 0
	for blocks > 0 {
		blocks -= 4
		tables++
	}
	return tables
}

// boundOf is the bound as the document's words say it, looked for from below.
func boundOf(zones, pages int) int {
	if zones < 11 || zones > 24 || pages < 4 || pages > 16 {
		return 0
	}
	bound := 0
	for blocks := 1; blocks <= 64; blocks++ {
		if tablesOf(blocks) <= pages && 2*(blocks+tablesOf(blocks)) <= (zones-7)*pages {
			bound = blocks
		}
	}
	return bound
}

// sizes calls f with all Zones and Pages that may be.
func sizes(f func(zones, pages int)) {
	for zones := api.LeastZones; zones <= api.MostZones; zones++ {
		for pages := api.LeastPages; pages <= api.MostPages; pages++ {
			f(zones, pages)
		}
	}
}

// geometries calls f with all geometries that may be.
func geometries(f func(g geo.Geo)) {
	sizes(func(zones, pages int) {
		for blocks := 1; blocks <= boundOf(zones, pages); blocks++ {
			f(geo.Geo{Zones: zones, Pages: pages, Blocks: blocks})
		}
	})
}

// P2.1

func TestTables(t *testing.T) {
	for _, c := range []struct{ blocks, want int }{
		{0, 0}, {1, 1}, {3, 1}, {4, 1}, {5, 2}, {6, 2}, {8, 2}, {9, 3},
		{60, 15}, {61, 16}, {63, 16}, {64, 16}, {65, 17}, {1000, 250}, {1001, 251},
		{math.MaxInt32, 1 << 29}, {math.MaxInt - 3, math.MaxInt / 4}, {math.MaxInt - 2, math.MaxInt/4 + 1}, {math.MaxInt, math.MaxInt/4 + 1},
	} {
		if got := geo.Tables(c.blocks); got != c.want {
			t.Errorf("Tables(%d) = %d, want %d", c.blocks, got, c.want)
		}
	}
	for blocks := range 300 {
		if got := geo.Tables(blocks); got != tablesOf(blocks) {
			t.Errorf("Tables(%d) = %d, want %d", blocks, got, tablesOf(blocks))
		}
	}
}

// The numbers were worked out by hand: at some of them room is the bound, at
// some the tables that a zone holds, at some MostBlocks, at some the half that
// is rounded down.
func TestBound(t *testing.T) {
	for _, c := range []struct{ zones, pages, want int }{
		{11, 4, 6}, {11, 5, 8}, {11, 16, 25}, {12, 4, 8}, {12, 5, 9}, {12, 7, 13},
		{13, 16, 38}, {14, 16, 44}, {15, 16, 51}, {16, 16, 57}, {17, 16, 64}, {18, 16, 64},
		{17, 4, 16}, {18, 4, 16}, {24, 4, 16}, {24, 5, 20}, {24, 15, 60}, {24, 16, 64},
	} {
		if got := geo.Bound(c.zones, c.pages); got != c.want {
			t.Errorf("Bound(%d, %d) = %d, want %d", c.zones, c.pages, got, c.want)
		}
	}
	sizes(func(zones, pages int) {
		if got := geo.Bound(zones, pages); got != boundOf(zones, pages) {
			t.Errorf("Bound(%d, %d) = %d, want %d", zones, pages, got, boundOf(zones, pages))
		}
	})
}

func TestBoundOfWhatMayNotBe(t *testing.T) {
	wrongZones := []int{math.MinInt, -11, -1, 0, 1, 7, 8, 10, 25, 1 << 32, 1<<32 + 11, math.MaxInt}
	wrongPages := []int{math.MinInt, -4, -1, 0, 1, 3, 17, 1 << 32, 1<<32 + 4, math.MaxInt}
	for _, zones := range wrongZones {
		for _, pages := range append([]int{4, 10, 16}, wrongPages...) {
			if got := geo.Bound(zones, pages); got != 0 {
				t.Errorf("Bound(%d, %d) = %d", zones, pages, got)
			}
		}
	}
	for _, pages := range wrongPages {
		for _, zones := range []int{11, 17, 24} {
			if got := geo.Bound(zones, pages); got != 0 {
				t.Errorf("Bound(%d, %d) = %d", zones, pages, got)
			}
		}
	}
}

func TestRight(t *testing.T) {
	for _, c := range []struct {
		g    geo.Geo
		want bool
	}{
		{geo.Geo{}, false},
		{geo.Geo{Zones: 11, Pages: 4, Blocks: 0}, false},
		{geo.Geo{Zones: 11, Pages: 4, Blocks: 1}, true},
		{geo.Geo{Zones: 11, Pages: 4, Blocks: 6}, true},
		{geo.Geo{Zones: 11, Pages: 4, Blocks: 7}, false},
		{geo.Geo{Zones: 10, Pages: 4, Blocks: 1}, false},
		{geo.Geo{Zones: 11, Pages: 3, Blocks: 1}, false},
		{geo.Geo{Zones: 24, Pages: 16, Blocks: 64}, true},
		{geo.Geo{Zones: 24, Pages: 16, Blocks: 65}, false},
		{geo.Geo{Zones: 25, Pages: 16, Blocks: 64}, false},
		{geo.Geo{Zones: 24, Pages: 17, Blocks: 64}, false},
		{geo.Geo{Zones: 4, Pages: 11, Blocks: 1}, false},
		{geo.Geo{Zones: 24, Pages: 16, Blocks: -1}, false},
		{geo.Geo{Zones: 10, Pages: 4, Blocks: 0}, false},
		{geo.Geo{Zones: math.MaxInt, Pages: math.MaxInt, Blocks: 1}, false},
		{geo.Geo{Zones: math.MinInt, Pages: math.MinInt, Blocks: math.MinInt}, false},
		{geo.Geo{Zones: 24, Pages: 16, Blocks: math.MaxInt}, false},
		{geo.Geo{Zones: 24, Pages: 16, Blocks: math.MinInt}, false},
		{geo.Geo{Zones: 1<<32 + 11, Pages: 1<<32 + 4, Blocks: 1<<32 + 1}, false},
	} {
		if got := geo.Right(c.g); got != c.want {
			t.Errorf("Right(%+v) = %v", c.g, got)
		}
	}
}

func TestRightRoundAllThatMayBe(t *testing.T) {
	for zones := -1; zones <= api.MostZones+2; zones++ {
		for pages := -1; pages <= api.MostPages+2; pages++ {
			for blocks := -2; blocks <= api.MostBlocks+2; blocks++ {
				g := geo.Geo{Zones: zones, Pages: pages, Blocks: blocks}
				want := blocks >= 1 && blocks <= boundOf(zones, pages)
				if got := geo.Right(g); got != want {
					t.Fatalf("Right(%+v) = %v", g, got)
				}
			}
		}
	}
}

func TestLog(t *testing.T) {
	geometries(func(g geo.Geo) {
		if got := geo.Log(g); got+2 != g.Zones {
			t.Fatalf("Log(%+v) = %d", g, got)
		}
	})
	if got := geo.Log(geo.Geo{Zones: 11, Pages: 4, Blocks: 6}); got != 9 {
		t.Errorf("Log = %d", got)
	}
}

// P2.2

// A log of 9 zones of 4 pages each has the addresses from 1 to 36.
func TestOf(t *testing.T) {
	g := geo.Geo{Zones: 11, Pages: 4, Blocks: 6}
	for _, c := range []struct {
		zone, page int
		want       uint32
	}{
		{0, 0, 1}, {0, 1, 2}, {0, 3, 4}, {1, 0, 5}, {1, 3, 8}, {4, 2, 19}, {8, 0, 33}, {8, 3, 36},
		{0, 4, 0}, {8, 4, 0}, {9, 0, 0}, {9, 3, 0}, {10, 0, 0}, {10, 3, 0}, {11, 0, 0},
		{-1, 0, 0}, {0, -1, 0}, {1, -1, 0}, {-1, 4, 0}, {-1, 5, 0}, {9, -4, 0},
		{math.MaxInt, 0, 0}, {math.MinInt, 0, 0}, {0, math.MaxInt, 0}, {0, math.MinInt, 0},
		{math.MaxInt, math.MaxInt, 0}, {math.MinInt, math.MinInt, 0}, {1 << 32, 0, 0}, {0, 1 << 32, 0},
	} {
		if got := geo.Of(g, c.zone, c.page); got != c.want {
			t.Errorf("Of(%d, %d) = %d, want %d", c.zone, c.page, got, c.want)
		}
	}
}

func TestAt(t *testing.T) {
	g := geo.Geo{Zones: 11, Pages: 4, Blocks: 6}
	for _, c := range []struct {
		a          uint32
		zone, page int
		ok         bool
	}{
		{0, 0, 0, false}, {1, 0, 0, true}, {2, 0, 1, true}, {4, 0, 3, true}, {5, 1, 0, true},
		{19, 4, 2, true}, {33, 8, 0, true}, {36, 8, 3, true}, {37, 0, 0, false}, {38, 0, 0, false},
		{44, 0, 0, false}, {45, 0, 0, false}, {1 << 31, 0, 0, false}, {1<<31 + 1, 0, 0, false},
		{math.MaxUint32 - 1, 0, 0, false}, {math.MaxUint32, 0, 0, false},
	} {
		zone, page, ok := geo.At(g, c.a)
		if zone != c.zone || page != c.page || ok != c.ok {
			t.Errorf("At(%d) = %d, %d, %v", c.a, zone, page, ok)
		}
	}
}

func TestTable(t *testing.T) {
	for _, c := range []struct{ block, table, place int }{
		{0, 0, 0}, {1, 0, 1}, {2, 0, 2}, {3, 0, 3}, {4, 1, 0}, {5, 1, 1}, {7, 1, 3}, {8, 2, 0},
		{62, 15, 2}, {63, 15, 3}, {64, 16, 0}, {math.MaxInt, math.MaxInt / 4, 3},
	} {
		if table, place := geo.Table(c.block); table != c.table || place != c.place {
			t.Errorf("Table(%d) = %d, %d", c.block, table, place)
		}
	}
	want, at := 0, 0
	for block := range 300 {
		if table, place := geo.Table(block); table != want || place != at {
			t.Errorf("Table(%d) = %d, %d", block, table, place)
		}
		if at++; at == api.Each {
			want, at = want+1, 0
		}
	}
}

// P2.3

// Addresses are counted, page behind page and zone behind zone.
func TestAddressesAndPagesAreEachOthers(t *testing.T) {
	geometries(func(g geo.Geo) {
		next := uint32(1)
		for zone := range g.Zones - 2 {
			for page := range g.Pages {
				if a := geo.Of(g, zone, page); a != next {
					t.Fatalf("Of(%+v, %d, %d) = %d, want %d", g, zone, page, a, next)
				}
				if z, p, ok := geo.At(g, next); z != zone || p != page || !ok {
					t.Fatalf("At(%+v, %d) = %d, %d, %v", g, next, z, p, ok)
				}
				next++
			}
		}
		noPages(t, g)
		noAddresses(t, g, next)
	})
}

// noPages asks for pages round about the log that it hasn't.
func noPages(t *testing.T, g geo.Geo) {
	t.Helper()
	for zone := -2; zone < g.Zones+2; zone++ {
		for _, page := range []int{math.MinInt, -g.Pages, -1, g.Pages, g.Pages + 1, math.MaxInt} {
			if a := geo.Of(g, zone, page); a != 0 {
				t.Fatalf("Of(%+v, %d, %d) = %d", g, zone, page, a)
			}
		}
	}
	for page := range g.Pages {
		for _, zone := range []int{math.MinInt, -1, g.Zones - 2, g.Zones - 1, g.Zones, math.MaxInt} {
			if a := geo.Of(g, zone, page); a != 0 {
				t.Fatalf("Of(%+v, %d, %d) = %d", g, zone, page, a)
			}
		}
	}
}

// noAddresses asks for addresses that the log hasn't: none, and those behind it.
func noAddresses(t *testing.T, g geo.Geo, behind uint32) {
	t.Helper()
	for _, a := range []uint32{0, behind, behind + 1, behind + uint32(2*g.Pages), 1 << 16, 1<<16 + 1, 1 << 31, 1<<31 + 1, math.MaxUint32} {
		if z, p, ok := geo.At(g, a); z != 0 || p != 0 || ok {
			t.Fatalf("At(%+v, %d) = %d, %d, %v", g, a, z, p, ok)
		}
	}
}

func TestMoreNeverBoundsLess(t *testing.T) {
	sizes(func(zones, pages int) {
		bound := geo.Bound(zones, pages)
		if zones < api.MostZones && geo.Bound(zones+1, pages) < bound {
			t.Errorf("one zone more than %d bounds less, at %d pages", zones, pages)
		}
		if pages < api.MostPages && geo.Bound(zones, pages+1) < bound {
			t.Errorf("one page more than %d bounds less, at %d zones", pages, zones)
		}
	})
}

func TestWhatMayBeHasRoom(t *testing.T) {
	many := 0
	sizes(func(zones, pages int) {
		for blocks := 1; geo.Right(geo.Geo{Zones: zones, Pages: pages, Blocks: blocks}); blocks++ {
			tables := geo.Tables(blocks)
			if 2*(blocks+tables) > (zones-7)*pages || tables > pages || blocks > api.MostBlocks {
				t.Fatalf("%d zones of %d pages have no room for %d blocks and %d tables", zones, pages, blocks, tables)
			}
			many++
		}
	})
	if many == 0 {
		t.Error("no geometry may be")
	}
}

func TestTablesTellEachBlockOnce(t *testing.T) {
	for blocks := 1; blocks <= api.MostBlocks; blocks++ {
		told := map[[2]int]int{}
		for block := range blocks {
			table, place := geo.Table(block)
			if table < 0 || table >= geo.Tables(blocks) || place < 0 || place >= api.Each {
				t.Fatalf("Table(%d) = %d, %d, of %d blocks", block, table, place, blocks)
			}
			told[[2]int{table, place}]++
		}
		if len(told) != blocks {
			t.Errorf("%d blocks have %d places", blocks, len(told))
		}
	}
}

func TestGeometriesAreCompared(t *testing.T) {
	g := geo.Geo{Zones: 12, Pages: 5, Blocks: 9}
	if g != (geo.Geo{Zones: 12, Pages: 5, Blocks: 9}) || g == (geo.Geo{Zones: 5, Pages: 12, Blocks: 9}) {
		t.Error("geometries aren't compared by their fields")
	}
	if !geo.Right(g) || geo.Bound(12, 5) != 9 {
		t.Errorf("%+v may not be", g)
	}
}

// Nothing is promised of geometries that may not be, nor of blocks below 0,
// but that no call panics.
func TestNoPanic(t *testing.T) {
	numbers := []int{math.MinInt, math.MinInt + 1, -1, 0, 1, 2, 3, 1 << 32, math.MaxInt - 1, math.MaxInt}
	for _, zones := range numbers {
		_ = geo.Tables(zones)
		_, _ = geo.Table(zones)
		for _, pages := range numbers {
			g := geo.Geo{Zones: zones, Pages: pages, Blocks: zones}
			_ = geo.Log(g)
			_ = geo.Of(g, zones-3, pages-1)
			for _, a := range []uint32{0, 1, 2, 1 << 31, math.MaxUint32} {
				_, _, _ = geo.At(g, a)
			}
		}
	}
}
