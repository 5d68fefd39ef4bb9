package zns_test

import (
	"bytes"
	"math"
	"slices"
	"strconv"
	"strings"
	"testing"

	"platelayer/api"
	"platelayer/fault"
	"platelayer/zns"
)

// far are numbers of which there is no zone, no page and no size.
var far = []int{math.MinInt, math.MinInt32, -256, -17, -1, 25, 256, 1<<32 + 1, -1 << 32, 1 << 32, math.MaxInt32, math.MaxInt}

// pageOf tells bytes of a page, others for each number.
func pageOf(n int) []byte {
	b := make([]byte, 33)
	for i := range b {
		b[i] = byte(n*7 + i*n + i)
	}
	b[0], b[1] = byte(n), byte(n>>8)
	return b
}

func newDevice(t *testing.T, zones, pages int) *zns.Device {
	t.Helper()
	d, err := zns.New(zones, pages)
	if err != nil || d == nil {
		t.Fatalf("New(%d, %d) = %v, %v", zones, pages, d, err)
	}
	return d
}

func loaded(t *testing.T, pages int, l [][][]byte) *zns.Device {
	t.Helper()
	d, err := zns.Load(pages, l)
	if err != nil || d == nil {
		t.Fatalf("Load(%d, %v) = %v, %v", pages, l, d, err)
	}
	return d
}

// wantCode holds an error against a code; OK stands for none at all.
func wantCode(t *testing.T, what string, err error, want api.Errno) {
	t.Helper()
	if want == api.OK && err != nil {
		t.Fatalf("%s: %v, want none", what, err)
	}
	if want != api.OK && (fault.Code(err) != want || !fault.Is(err, want)) {
		t.Fatalf("%s: %v, want code %d", what, err, want)
	}
}

func wantAppend(t *testing.T, d *zns.Device, zone int, b []byte, number int) {
	t.Helper()
	got, err := d.Append(zone, b)
	if err != nil || got != number {
		t.Fatalf("Append(%d) = %d, %v, want %d", zone, got, err, number)
	}
}

func wantNoAppend(t *testing.T, d *zns.Device, zone int, b []byte, want api.Errno) {
	t.Helper()
	got, err := d.Append(zone, b)
	wantCode(t, "Append "+strconv.Itoa(zone), err, want)
	if got != 0 {
		t.Fatalf("Append(%d): %d beside an error", zone, got)
	}
}

func wantRead(t *testing.T, d *zns.Device, zone, page int, want []byte) {
	t.Helper()
	got, err := d.Read(zone, page)
	if err != nil || !bytes.Equal(got, want) {
		t.Fatalf("Read(%d, %d) = %v, %v, want %v", zone, page, got, err, want)
	}
}

func wantNoRead(t *testing.T, d *zns.Device, zone, page int, want api.Errno) {
	t.Helper()
	got, err := d.Read(zone, page)
	wantCode(t, "Read "+strconv.Itoa(zone)+" "+strconv.Itoa(page), err, want)
	if len(got) != 0 {
		t.Fatalf("Read(%d, %d): %v beside an error", zone, page, got)
	}
}

func wantReset(t *testing.T, d *zns.Device, zone int, want api.Errno) {
	t.Helper()
	wantCode(t, "Reset "+strconv.Itoa(zone), d.Reset(zone), want)
}

func wantFinish(t *testing.T, d *zns.Device, zone int, want api.Errno) {
	t.Helper()
	wantCode(t, "Finish "+strconv.Itoa(zone), d.Finish(zone), want)
}

func wantFlush(t *testing.T, d *zns.Device, want api.Errno) {
	t.Helper()
	wantCode(t, "Flush", d.Flush(), want)
}

// wantZone holds what is told of a zone.
func wantZone(t *testing.T, d *zns.Device, zone, state, point, sure int) {
	t.Helper()
	if s, p, u := d.State(zone), d.Point(zone), d.Sure(zone); s != state || p != point || u != sure {
		t.Fatalf("zone %d: %d %d %d, want %d %d %d", zone, s, p, u, state, point, sure)
	}
}

// wantPower holds what is told of the power.
func wantPower(t *testing.T, d *zns.Device, down bool, ops int) {
	t.Helper()
	if d.Down() != down || d.Ops() != ops {
		t.Fatalf("Down %v, Ops %d, want %v, %d", d.Down(), d.Ops(), down, ops)
	}
}

// seen is all that a device tells, as text; of a device whose power is gone
// no pages.
func seen(d *zns.Device) string {
	var b strings.Builder
	put := func(n int) { b.WriteString(strconv.Itoa(n) + " ") }
	put(d.Zones())
	put(d.Pages())
	put(d.Ops())
	b.WriteString(strconv.FormatBool(d.Down()) + "\n")
	for zone := -1; zone <= d.Zones(); zone++ {
		put(d.State(zone))
		put(d.Point(zone))
		put(d.Sure(zone))
		for page := -1; page <= d.Pages(); page++ {
			got, err := d.Read(zone, page)
			put(int(fault.Code(err)))
			b.WriteString(strconv.Quote(string(got)))
		}
		b.WriteString("\n")
	}
	return b.String()
}

// wantSeen holds all that a device tells against what it told ahead.
func wantSeen(t *testing.T, d *zns.Device, want string) {
	t.Helper()
	if got := seen(d); got != want {
		t.Fatalf("told\n%swant\n%s", got, want)
	}
}

// filled is a device of so many zones of 4 pages, of which each has some: the
// zone 0 none, the zone 1 one, and so on, and the first sure ones of each are
// sure.
func filled(t *testing.T, zones, sure int) *zns.Device {
	t.Helper()
	d := newDevice(t, zones, 4)
	for page := range 5 {
		if page == sure {
			wantFlush(t, d, api.OK)
		}
		for zone := range zones {
			if page < zone%5 {
				wantAppend(t, d, zone, pageOf(zone*16+page), page)
			}
		}
	}
	return d
}

// P7.1

func TestNew(t *testing.T) {
	sizes := append([]int{0}, far...)
	for n := -3; n <= 28; n++ {
		sizes = append(sizes, n)
	}
	for _, zones := range sizes {
		for _, pages := range sizes {
			d, err := zns.New(zones, pages)
			if zones < 1 || zones > 24 || pages < 1 || pages > 16 {
				wantCode(t, "New", err, api.ErrArg)
				if d != nil {
					t.Fatalf("New(%d, %d): a device beside an error", zones, pages)
				}
				continue
			}
			if err != nil || d == nil {
				t.Fatalf("New(%d, %d) = %v, %v", zones, pages, d, err)
			}
			wantNew(t, d, zones, pages)
		}
	}
}

// wantNew holds a device against one that is empty, and of which nothing was
// asked.
func wantNew(t *testing.T, d *zns.Device, zones, pages int) {
	t.Helper()
	if d.Zones() != zones || d.Pages() != pages {
		t.Fatalf("Zones %d, Pages %d, want %d, %d", d.Zones(), d.Pages(), zones, pages)
	}
	wantPower(t, d, false, 0)
	for zone := -2; zone < zones+2; zone++ {
		wantZone(t, d, zone, zns.Empty, 0, 0)
	}
	wantNoRead(t, d, zones-1, pages-1, api.ErrNone)
	wantNoRead(t, d, zones-1, pages, api.ErrArg)
	wantNoRead(t, d, zones, 0, api.ErrArg)
}

func TestStates(t *testing.T) {
	if zns.Empty != 0 || zns.Open != 1 || zns.Full != 2 {
		t.Error("states are other numbers")
	}
}

// Load at as many zones, and as many pages that a zone takes, as may be or not.
func TestLoadOfZonesWithoutPages(t *testing.T) {
	for zones := 0; zones <= 27; zones++ {
		for _, pages := range append([]int{-2, 0, 1, 2, 4, 15, 16, 17, 18}, far...) {
			d, err := zns.Load(pages, make([][][]byte, zones))
			if zones < 1 || zones > 24 || pages < 1 || pages > 16 {
				wantCode(t, "Load", err, api.ErrArg)
				if d != nil {
					t.Fatalf("Load(%d) of %d zones: a device beside an error", pages, zones)
				}
				continue
			}
			if err != nil || d == nil {
				t.Fatalf("Load(%d) of %d zones = %v, %v", pages, zones, d, err)
			}
			wantNew(t, d, zones, pages)
		}
	}
}

func wantNoLoad(t *testing.T, pages int, l [][][]byte) {
	t.Helper()
	d, err := zns.Load(pages, l)
	wantCode(t, "Load", err, api.ErrArg)
	if d != nil {
		t.Fatalf("Load(%d): a device beside an error", pages)
	}
}

func TestLoadOfNothing(t *testing.T) {
	for _, pages := range []int{-1, 0, 1, 4, 16, 17} {
		wantNoLoad(t, pages, nil)
		wantNoLoad(t, pages, [][][]byte{})
	}
	wantNoLoad(t, 4, make([][][]byte, 1<<16))
	wantNew(t, loaded(t, 4, [][][]byte{nil, {}}), 2, 4)
}

// pagesOf tells so many pages of a zone.
func pagesOf(zone, many int) [][]byte {
	var l [][]byte
	for page := range many {
		l = append(l, pageOf(zone*16+page))
	}
	return l
}

// A zone of each number of pages, in each place of the list.
func TestLoadOfManyPages(t *testing.T) {
	for pages := 1; pages <= 16; pages++ {
		for _, zones := range []int{1, 2, 24} {
			for many := 0; many <= pages+2; many++ {
				for _, zone := range []int{0, zones / 2, zones - 1} {
					l := make([][][]byte, zones)
					l[zone] = pagesOf(zone, many)
					if many > pages {
						wantNoLoad(t, pages, l)
						continue
					}
					wantLoaded(t, loaded(t, pages, l), pages, l)
				}
			}
		}
	}
}

// wantLoaded holds a device against the list from which it was loaded.
func wantLoaded(t *testing.T, d *zns.Device, pages int, l [][][]byte) {
	t.Helper()
	if d.Zones() != len(l) || d.Pages() != pages {
		t.Fatalf("Zones %d, Pages %d", d.Zones(), d.Pages())
	}
	wantPower(t, d, false, 0)
	for zone, written := range l {
		state := zns.Open
		switch len(written) {
		case 0:
			state = zns.Empty
		case pages:
			state = zns.Full
		}
		wantZone(t, d, zone, state, len(written), len(written))
		for page := range pages {
			switch {
			case page >= len(written):
				wantNoRead(t, d, zone, page, api.ErrNone)
			case len(written[page]) == 0:
				wantNoRead(t, d, zone, page, api.ErrTorn)
			default:
				wantRead(t, d, zone, page, written[page])
			}
		}
	}
}

// A page of each number of bytes, in each place of a zone.
func TestLoadOfPagesOfManyBytes(t *testing.T) {
	for size := range 70 {
		for place := range 4 {
			l := [][][]byte{nil, pagesOf(1, 4), pagesOf(2, 1)}
			l[1][place] = make([]byte, size)
			if size != 0 && size != 33 {
				wantNoLoad(t, 4, l)
				continue
			}
			wantLoaded(t, loaded(t, 4, l), 4, l)
		}
	}
	wantNoLoad(t, 4, [][][]byte{{pageOf(1), make([]byte, 1<<20)}})
	wantLoaded(t, loaded(t, 4, [][][]byte{{nil, {}, pageOf(1)}}), 4, [][][]byte{{nil, nil, pageOf(1)}})
	wantLoaded(t, loaded(t, 2, [][][]byte{{nil, nil}}), 2, [][][]byte{{nil, nil}})
}

// The last zone, and the last page in it, count as all others.
func TestLoadOfTheGreatestDevice(t *testing.T) {
	l := make([][][]byte, 24)
	for zone := range l {
		l[zone] = pagesOf(zone, 16)
	}
	wantLoaded(t, loaded(t, 16, l), 16, l)
	l[23][15] = l[23][15][:32]
	wantNoLoad(t, 16, l)
	l[23][15] = append(pageOf(1), 0)
	wantNoLoad(t, 16, l)
	l[23] = pagesOf(23, 17)
	wantNoLoad(t, 16, l)
	l[23] = nil
	wantNoLoad(t, 16, append(l, nil))
	wantNoLoad(t, 15, l)
}

// What room a list, or a page, has behind its end is none of it.
func TestLoadOfListsWithRoomBehind(t *testing.T) {
	room := append(pageOf(1), pageOf(2)...)
	zones := [][][]byte{{room[:33], room[:0]}, {room[33:]}}
	d := loaded(t, 2, zones[:1])
	wantLoaded(t, d, 2, [][][]byte{{pageOf(1), nil}})
	wantNoLoad(t, 2, [][][]byte{{room}})
}

func TestLoadedDevicesGoOn(t *testing.T) {
	d := loaded(t, 4, [][][]byte{{pageOf(1), nil}, {pageOf(2), pageOf(3), pageOf(4), nil}, nil})
	d.Crash(nil, []bool{true, true, true})
	wantZone(t, d, 0, zns.Open, 2, 2)
	wantZone(t, d, 1, zns.Full, 4, 4)
	wantZone(t, d, 2, zns.Empty, 0, 0)
	wantAppend(t, d, 0, pageOf(5), 2)
	wantNoAppend(t, d, 1, pageOf(6), api.ErrZone)
	wantAppend(t, d, 2, pageOf(7), 0)
	wantZone(t, d, 0, zns.Open, 3, 2)
	wantZone(t, d, 2, zns.Open, 1, 0)
	wantNoRead(t, d, 0, 1, api.ErrTorn)
	wantRead(t, d, 0, 2, pageOf(5))
	d.Crash([]int{0, 0, 1}, nil)
	wantZone(t, d, 0, zns.Open, 2, 2)
	wantZone(t, d, 2, zns.Open, 1, 1)
	wantFinish(t, d, 0, api.OK)
	wantReset(t, d, 1, api.OK)
	wantAppend(t, d, 1, pageOf(8), 0)
	wantRead(t, d, 1, 0, pageOf(8))
	wantPower(t, d, false, 5)
}

// A loaded device has no fuse, however many calls it does.
func TestLoadedDevicesHaveNoFuse(t *testing.T) {
	d := loaded(t, 1, [][][]byte{{pageOf(1)}})
	for range 1000 {
		wantFlush(t, d, api.OK)
	}
	wantPower(t, d, false, 1000)
}

func TestNoSuchZone(t *testing.T) {
	for _, zones := range []int{1, 2, 11, 24} {
		d := newDevice(t, zones, 1)
		for zone := range zones {
			wantAppend(t, d, zone, pageOf(zone), 0)
		}
		wantFlush(t, d, api.OK)
		told := seen(d)
		for _, zone := range append([]int{-2, zones, zones + 1, zones + 256}, far...) {
			wantZone(t, d, zone, 0, 0, 0)
			wantNoAppend(t, d, zone, pageOf(1), api.ErrArg)
			wantNoRead(t, d, zone, 0, api.ErrArg)
			wantReset(t, d, zone, api.ErrArg)
			wantFinish(t, d, zone, api.ErrArg)
		}
		wantSeen(t, d, told)
	}
}

// The chapter's example.
func TestExample(t *testing.T) {
	d := newDevice(t, 2, 4)
	wantAppend(t, d, 1, pageOf(1), 0)
	wantAppend(t, d, 1, pageOf(2), 1)
	wantFlush(t, d, api.OK)
	wantAppend(t, d, 1, pageOf(3), 2)
	wantZone(t, d, 1, zns.Open, 3, 2)
	d.Crash(nil, nil)
	wantZone(t, d, 1, zns.Open, 2, 2)
	wantZone(t, d, 0, zns.Empty, 0, 0)
}

// P7.2

// Append till each zone is Full, on all sizes of zones.
func TestAppendTillFull(t *testing.T) {
	for pages := 1; pages <= 16; pages++ {
		d := newDevice(t, 3, pages)
		for page := range pages {
			for _, zone := range []int{2, 0} {
				wantAppend(t, d, zone, pageOf(zone*16+page), page)
				state := zns.Open
				if page == pages-1 {
					state = zns.Full
				}
				wantZone(t, d, zone, state, page+1, 0)
			}
		}
		told := seen(d)
		for _, zone := range []int{0, 2} {
			wantNoAppend(t, d, zone, pageOf(1), api.ErrZone)
			wantNoAppend(t, d, zone, pageOf(1), api.ErrZone)
		}
		wantSeen(t, d, told)
		wantZone(t, d, 1, zns.Empty, 0, 0)
		wantPower(t, d, false, 2*pages)
		for page := range pages {
			wantRead(t, d, 0, page, pageOf(page))
			wantRead(t, d, 2, page, pageOf(32+page))
			wantNoRead(t, d, 1, page, api.ErrNone)
		}
	}
}

func TestAppendOfManyBytes(t *testing.T) {
	d := newDevice(t, 2, 4)
	wantAppend(t, d, 0, pageOf(1), 0)
	told := seen(d)
	for size := range 70 {
		if size != 33 {
			wantNoAppend(t, d, 0, make([]byte, size), api.ErrArg)
			wantNoAppend(t, d, 1, make([]byte, size, 80), api.ErrArg)
		}
	}
	wantNoAppend(t, d, 0, nil, api.ErrArg)
	wantNoAppend(t, d, 0, make([]byte, 1<<20), api.ErrArg)
	wantSeen(t, d, told)
	wantAppend(t, d, 0, make([]byte, 33), 1)
	wantRead(t, d, 0, 1, make([]byte, 33))
	long := append(pageOf(2), pageOf(3)...)
	wantAppend(t, d, 0, long[:33], 2)
	wantRead(t, d, 0, 2, pageOf(2))
}

// Each byte of a page comes back, as each other byte.
func TestAppendOfEachByte(t *testing.T) {
	d := newDevice(t, 1, 1)
	for place := range 33 {
		for value := range 256 {
			b := pageOf(3)
			b[place] = byte(value)
			wantAppend(t, d, 0, b, 0)
			wantRead(t, d, 0, 0, b)
			wantReset(t, d, 0, api.OK)
		}
	}
}

func TestReadOfPages(t *testing.T) {
	for _, pages := range []int{1, 4, 15, 16} {
		d := newDevice(t, 2, pages)
		for page := range max(pages-1, 1) {
			wantAppend(t, d, 1, pageOf(page), page)
		}
		told := seen(d)
		for _, page := range append([]int{-2, pages, pages + 1, pages + 16, pages + 256}, far...) {
			wantNoRead(t, d, 1, page, api.ErrArg)
			wantNoRead(t, d, 0, page, api.ErrArg)
			wantNoRead(t, d, 2, page, api.ErrArg)
			wantNoRead(t, d, -1, page, api.ErrArg)
		}
		for page := range pages {
			wantNoRead(t, d, 0, page, api.ErrNone)
			if page < d.Point(1) {
				wantRead(t, d, 1, page, pageOf(page))
			} else {
				wantNoRead(t, d, 1, page, api.ErrNone)
			}
		}
		wantSeen(t, d, told)
	}
}

// Where several errors apply, the one that is named first is told.
func TestErrorsInTheirOrder(t *testing.T) {
	d := loaded(t, 2, [][][]byte{{pageOf(1), nil}, {pageOf(2)}, nil})
	wantFinish(t, d, 1, api.OK)
	short := make([]byte, 32)
	wantNoAppend(t, d, 0, short, api.ErrArg)
	wantNoAppend(t, d, 1, short, api.ErrArg)
	wantNoAppend(t, d, 3, short, api.ErrArg)
	wantNoAppend(t, d, 0, pageOf(3), api.ErrZone)
	wantNoAppend(t, d, 1, pageOf(3), api.ErrZone)
	wantNoRead(t, d, 2, 2, api.ErrArg)
	wantNoRead(t, d, 2, 1, api.ErrNone)
	wantNoRead(t, d, 1, 2, api.ErrArg)
	wantNoRead(t, d, 0, 1, api.ErrTorn)
	wantFinish(t, d, 3, api.ErrArg)
	wantFinish(t, d, 2, api.ErrState)
	d.Fuse(0)
	wantNoAppend(t, d, 0, short, api.ErrArg)
	wantNoAppend(t, d, 0, pageOf(3), api.ErrZone)
	wantReset(t, d, 3, api.ErrArg)
	wantFinish(t, d, 3, api.ErrArg)
	wantFinish(t, d, 2, api.ErrState)
	wantPower(t, d, false, 1)
	wantFlush(t, d, api.ErrDown)
	wantPower(t, d, true, 1)
	wantNoAppend(t, d, 3, short, api.ErrDown)
	wantNoAppend(t, d, 0, pageOf(3), api.ErrDown)
	wantNoRead(t, d, 3, 9, api.ErrDown)
	wantNoRead(t, d, 0, 1, api.ErrDown)
	wantReset(t, d, 3, api.ErrDown)
	wantFinish(t, d, 3, api.ErrDown)
	wantFinish(t, d, 2, api.ErrDown)
}

// P7.3

func TestReset(t *testing.T) {
	for sure := range 5 {
		for zone := range 5 {
			d := filled(t, 5, sure)
			other := (zone + 2) % 5
			state, point, kept := d.State(other), d.Point(other), d.Sure(other)
			ops := d.Ops()
			wantReset(t, d, zone, api.OK)
			wantZone(t, d, zone, zns.Empty, 0, 0)
			wantZone(t, d, other, state, point, kept)
			for page := range 4 {
				wantNoRead(t, d, zone, page, api.ErrNone)
			}
			wantReset(t, d, zone, api.OK)
			wantPower(t, d, false, ops+2)
			d.Crash([]int{9, 9, 9, 9, 9}, []bool{true, true, true, true, true})
			wantZone(t, d, zone, zns.Empty, 0, 0)
			wantFinish(t, d, zone, api.ErrState)
			for page := range 4 {
				wantAppend(t, d, zone, pageOf(99+page), page)
				wantRead(t, d, zone, page, pageOf(99+page))
			}
			wantZone(t, d, zone, zns.Full, 4, 0)
			wantNoAppend(t, d, zone, pageOf(1), api.ErrZone)
		}
	}
}

// A zone that is reset isn't finished any more, not in a crash either, and has
// no torn pages.
func TestResetOfFinishedAndTornZones(t *testing.T) {
	d := loaded(t, 4, [][][]byte{{pageOf(1), nil}, {nil, nil, nil, nil}, {pageOf(2)}})
	wantFinish(t, d, 0, api.OK)
	wantFinish(t, d, 2, api.OK)
	for zone := range 3 {
		wantReset(t, d, zone, api.OK)
		wantZone(t, d, zone, zns.Empty, 0, 0)
		wantAppend(t, d, zone, pageOf(7), 0)
		wantZone(t, d, zone, zns.Open, 1, 0)
		wantRead(t, d, zone, 0, pageOf(7))
		wantAppend(t, d, zone, pageOf(8), 1)
		wantNoRead(t, d, zone, 2, api.ErrNone)
	}
	d.Crash([]int{1, 1, 1}, nil)
	for zone := range 3 {
		wantZone(t, d, zone, zns.Open, 1, 1)
		wantFinish(t, d, zone, api.OK)
		wantZone(t, d, zone, zns.Full, 1, 1)
		wantNoAppend(t, d, zone, pageOf(9), api.ErrZone)
	}
}

func TestFinish(t *testing.T) {
	for sure := range 5 {
		d := filled(t, 5, sure)
		ops := d.Ops()
		wantFinish(t, d, 0, api.ErrState)
		wantPower(t, d, false, ops)
		wantZone(t, d, 0, zns.Empty, 0, 0)
		for zone := 1; zone < 5; zone++ {
			kept := d.Sure(zone)
			wantFinish(t, d, zone, api.OK)
			wantZone(t, d, zone, zns.Full, zone, kept)
			wantFinish(t, d, zone, api.OK)
			wantZone(t, d, zone, zns.Full, zone, kept)
			told := seen(d)
			wantNoAppend(t, d, zone, pageOf(1), api.ErrZone)
			wantSeen(t, d, told)
			for page := range zone {
				wantRead(t, d, zone, page, pageOf(zone*16+page))
			}
			if zone < 4 {
				wantNoRead(t, d, zone, zone, api.ErrNone)
			}
		}
		wantPower(t, d, false, ops+8)
		wantFlush(t, d, api.OK)
		wantZone(t, d, 2, zns.Full, 2, 2)
		d.Crash(nil, []bool{true, true, true, true, true})
		for zone := 1; zone < 5; zone++ {
			wantZone(t, d, zone, zns.Full, zone, zone)
			wantNoAppend(t, d, zone, pageOf(1), api.ErrZone)
		}
		wantAppend(t, d, 0, pageOf(1), 0)
	}
}

// A finished zone stays so in a crash, whatever it loses.
func TestFinishedZonesThatCrash(t *testing.T) {
	for keep := range 4 {
		for _, tear := range []bool{false, true} {
			d := newDevice(t, 1, 4)
			for page := range 3 {
				wantAppend(t, d, 0, pageOf(page), page)
			}
			wantFinish(t, d, 0, api.OK)
			d.Crash([]int{keep}, []bool{tear})
			many := keep
			if tear {
				many = min(keep+1, 3)
			}
			if many == 0 {
				wantEmptyFinished(t, d)
				continue
			}
			wantZone(t, d, 0, zns.Full, many, many)
			wantNoAppend(t, d, 0, pageOf(1), api.ErrZone)
			wantFinish(t, d, 0, api.OK)
			wantReset(t, d, 0, api.OK)
			wantAppend(t, d, 0, pageOf(1), 0)
			wantZone(t, d, 0, zns.Open, 1, 0)
		}
	}
}

// wantEmptyFinished holds the zone 0 against one that is finished, and lost
// all its pages: it is Empty, since it is without pages, and takes one page,
// behind which it is Full.
func wantEmptyFinished(t *testing.T, d *zns.Device) {
	t.Helper()
	wantZone(t, d, 0, zns.Empty, 0, 0)
	wantFinish(t, d, 0, api.ErrState)
	wantAppend(t, d, 0, pageOf(5), 0)
	wantZone(t, d, 0, zns.Full, 1, 0)
	wantNoAppend(t, d, 0, pageOf(6), api.ErrZone)
	wantFlush(t, d, api.OK)
	wantZone(t, d, 0, zns.Full, 1, 1)
	wantReset(t, d, 0, api.OK)
	wantAppend(t, d, 0, pageOf(7), 0)
	wantZone(t, d, 0, zns.Open, 1, 0)
}

func TestFlush(t *testing.T) {
	for sure := range 5 {
		d := filled(t, 24, sure)
		ops := d.Ops()
		wantFlush(t, d, api.OK)
		for zone := range 24 {
			wantZone(t, d, zone, []int{zns.Empty, zns.Open, zns.Open, zns.Open, zns.Full}[zone%5], zone%5, zone%5)
		}
		told := seen(d)
		d.Crash(nil, []bool{true, true, true, true, true, true})
		wantSeen(t, d, told)
		wantFlush(t, d, api.OK)
		wantPower(t, d, false, ops+2)
	}
}

// calls are those that take of the fuse, each on a device on which it has no
// error: of the zone 0 one page is there, and the zone takes more.
var calls = []struct {
	name string
	call func(d *zns.Device) error
}{
	{"Append", func(d *zns.Device) error { _, err := d.Append(0, pageOf(9)); return err }},
	{"Reset", func(d *zns.Device) error { return d.Reset(0) }},
	{"Finish", func(d *zns.Device) error { return d.Finish(0) }},
	{"Flush", func(d *zns.Device) error { return d.Flush() }},
}

// onePage is a device on which each of these calls has no error.
func onePage(t *testing.T) *zns.Device {
	t.Helper()
	d := newDevice(t, 2, 16)
	wantAppend(t, d, 0, pageOf(1), 0)
	return d
}

func TestFuseOfEachCall(t *testing.T) {
	for _, c := range calls {
		d := onePage(t)
		d.Fuse(1)
		wantCode(t, c.name, c.call(d), api.OK)
		wantPower(t, d, false, 2)

		d = onePage(t)
		d.Fuse(0)
		told := seen(d)
		wantSeen(t, d, told)
		wantPower(t, d, false, 1)
		wantCode(t, c.name, c.call(d), api.ErrDown)
		wantPower(t, d, true, 1)
		wantZone(t, d, 0, zns.Open, 1, 0)
		wantCode(t, c.name, c.call(d), api.ErrDown)
		d.Crash([]int{1}, nil)
		wantPower(t, d, false, 1)
		wantZone(t, d, 0, zns.Open, 1, 1)
		wantRead(t, d, 0, 0, pageOf(1))
		wantCode(t, c.name, c.call(d), api.OK)
		wantPower(t, d, false, 2)
	}
}

// An Append that the fuse ends tells no number beside its error.
func TestFuseOfAppendTellsNoNumber(t *testing.T) {
	d := onePage(t)
	d.Fuse(1)
	wantAppend(t, d, 0, pageOf(2), 1)
	wantNoAppend(t, d, 0, pageOf(3), api.ErrDown)
	wantZone(t, d, 0, zns.Open, 2, 0)
	wantNoAppend(t, d, 0, pageOf(3), api.ErrDown)
	d.Crash([]int{9}, []bool{true})
	wantZone(t, d, 0, zns.Open, 2, 2)
	wantRead(t, d, 0, 1, pageOf(2))
}

// erring are calls that have an error, or that take nothing of the fuse, on a
// device whose zone 0 has a page, whose zone 1 has none, and whose zone 2 is
// Full.
func erring(t *testing.T, d *zns.Device) {
	t.Helper()
	wantNoAppend(t, d, -1, pageOf(1), api.ErrArg)
	wantNoAppend(t, d, 0, nil, api.ErrArg)
	wantNoAppend(t, d, 2, pageOf(1), api.ErrZone)
	wantReset(t, d, 3, api.ErrArg)
	wantFinish(t, d, -1, api.ErrArg)
	wantFinish(t, d, 1, api.ErrState)
	wantRead(t, d, 0, 0, pageOf(1))
	wantNoRead(t, d, 0, 1, api.ErrTorn)
	wantNoRead(t, d, 1, 0, api.ErrNone)
	wantNoRead(t, d, 1, 4, api.ErrArg)
}

func TestFuseBurnsByCallsWithoutErrorAlone(t *testing.T) {
	for many := range 12 {
		d := loaded(t, 4, [][][]byte{{pageOf(1), nil}, nil, {nil, nil, nil, nil}})
		d.Fuse(many)
		for done := range many {
			told := seen(d)
			erring(t, d)
			wantSeen(t, d, told)
			wantPower(t, d, false, done)
			wantFlush(t, d, api.OK)
		}
		erring(t, d)
		wantPower(t, d, false, many)
		wantFlush(t, d, api.ErrDown)
		wantPower(t, d, true, many)
	}
}

func TestFuseBelowNone(t *testing.T) {
	for _, n := range []int{-1, -2, -100, math.MinInt32, math.MinInt + 1, math.MinInt} {
		d := onePage(t)
		d.Fuse(n)
		for range 200 {
			wantFlush(t, d, api.OK)
		}
		wantPower(t, d, false, 201)
	}
	d := onePage(t)
	d.Fuse(math.MaxInt)
	for range 200 {
		wantFlush(t, d, api.OK)
	}
	wantPower(t, d, false, 201)
}

// A fuse that is set anew burns from there on, whatever was left of the other.
func TestFuseSetWhileItBurns(t *testing.T) {
	for _, first := range []int{0, 1, 5, -1} {
		for second := range 4 {
			d := onePage(t)
			d.Fuse(first)
			if first != 0 {
				wantFlush(t, d, api.OK)
			}
			ops := d.Ops()
			d.Fuse(second)
			for range second {
				wantFlush(t, d, api.OK)
			}
			wantPower(t, d, false, ops+second)
			wantFlush(t, d, api.ErrDown)
			wantPower(t, d, true, ops+second)
		}
		d := onePage(t)
		d.Fuse(first)
		d.Fuse(-1)
		for range 10 {
			wantFlush(t, d, api.OK)
		}
	}
}

// A fuse that is set while the power is gone brings it not back, and is gone
// behind a crash, as any other.
func TestFuseSetWhileThePowerIsGone(t *testing.T) {
	for _, n := range []int{-1, 0, 1, 2, 100} {
		d := onePage(t)
		d.Fuse(0)
		wantFlush(t, d, api.ErrDown)
		d.Fuse(n)
		wantPower(t, d, true, 1)
		wantFlush(t, d, api.ErrDown)
		wantNoAppend(t, d, 0, pageOf(2), api.ErrDown)
		wantPower(t, d, true, 1)
		d.Crash(nil, nil)
		for range 200 {
			wantFlush(t, d, api.OK)
		}
		wantPower(t, d, false, 201)
	}
}

// A crash takes a fuse away that has burned down in part, or not at all.
func TestCrashTakesTheFuse(t *testing.T) {
	for _, n := range []int{0, 1, 2, 3} {
		d := onePage(t)
		d.Fuse(n)
		if n > 1 {
			wantFlush(t, d, api.OK)
		}
		ops := d.Ops()
		d.Crash(nil, nil)
		wantPower(t, d, false, ops)
		for range 20 {
			wantFlush(t, d, api.OK)
		}
		wantPower(t, d, false, ops+20)
	}
}

// While the power is gone each call that is told by an error is ErrDown, and
// what is told without one stays.
func TestPowerIsGone(t *testing.T) {
	d := filled(t, 5, 2)
	wantFinish(t, d, 1, api.OK)
	want, ops := seen(d), d.Ops()
	d.Fuse(0)
	wantFlush(t, d, api.ErrDown)
	gone := seen(d)
	numbers := append([]int{-2, 0, 1, 2, 3, 4, 5, 6}, far...)
	for _, zone := range numbers {
		for _, b := range [][]byte{nil, {}, {1}, pageOf(1)[:32], pageOf(1), append(pageOf(1), 0)} {
			wantNoAppend(t, d, zone, b, api.ErrDown)
		}
		for _, page := range numbers {
			wantNoRead(t, d, zone, page, api.ErrDown)
		}
		wantReset(t, d, zone, api.ErrDown)
		wantFinish(t, d, zone, api.ErrDown)
		wantFlush(t, d, api.ErrDown)
	}
	wantSeen(t, d, gone)
	wantPower(t, d, true, ops)
	if d.Zones() != 5 || d.Pages() != 4 {
		t.Errorf("Zones %d, Pages %d", d.Zones(), d.Pages())
	}
	for zone, told := range [][3]int{{zns.Empty, 0, 0}, {zns.Full, 1, 1}, {zns.Open, 2, 2}, {zns.Open, 3, 2}, {zns.Full, 4, 2}} {
		wantZone(t, d, zone, told[0], told[1], told[2])
	}
	wantZone(t, d, -1, 0, 0, 0)
	wantZone(t, d, 5, 0, 0, 0)
	d.Crash([]int{9, 9, 9, 9, 9}, nil)
	wantZone(t, d, 4, zns.Full, 4, 4)
	other := filled(t, 5, 2)
	wantFinish(t, other, 1, api.OK)
	wantSeen(t, other, want)
	other.Crash([]int{9, 9, 9, 9, 9}, nil)
	wantSeen(t, d, seen(other))
}

// P7.4

// stay tells how many pages stay of a zone, and how many of these are torn,
// by the document's words.
func stay(point, sure, keep int, tear bool) (int, int) {
	many := sure
	for range point - sure {
		if keep > 0 {
			many++
			keep--
		}
	}
	if tear && many < point {
		return many + 1, 1
	}
	return many, 0
}

// keeps are numbers of pages that are kept, far off and near.
var keeps = []int{math.MinInt, math.MinInt32, -1, 0, 1, 2, 3, 4, 5, 16, 17, math.MaxInt32, math.MaxInt - 1, math.MaxInt}

// A zone of each number of pages, of which each number is sure, that keeps each
// number, tears or not, is finished or not, and whose power is gone or not.
func TestCrashOfEachZone(t *testing.T) {
	for sure := range 5 {
		for zone := range 5 {
			for _, keep := range keeps {
				for way := range 8 {
					d := filled(t, 5, sure)
					wantCrash(t, d, zone, keep, way&1 > 0, way&2 > 0, way&4 > 0)
				}
			}
		}
	}
}

// wantCrash holds one zone of a filled device against what stays of it; all
// others keep none and don't tear.
func wantCrash(t *testing.T, d *zns.Device, zone, keep int, tear, finish, gone bool) {
	t.Helper()
	if finish && d.Point(zone) > 0 {
		wantFinish(t, d, zone, api.OK)
	}
	d.Fuse(3)
	if gone {
		d.Fuse(0)
		wantFlush(t, d, api.ErrDown)
	}
	ops, states := d.Ops(), make([]int, d.Zones())
	for other := range states {
		states[other] = d.Sure(other)
	}
	many, torn := stay(d.Point(zone), d.Sure(zone), keep, tear)
	keepAll, tearAll := make([]int, zone+1), make([]bool, zone+1)
	keepAll[zone], tearAll[zone] = keep, tear
	d.Crash(keepAll, tearAll)
	wantPower(t, d, false, ops)
	states[zone] = many
	for other, point := range states {
		state := zns.Open
		switch {
		case point == 0:
			state = zns.Empty
		case point == 4 || other == zone && finish:
			state = zns.Full
		}
		wantZone(t, d, other, state, point, point)
	}
	for page := range 4 {
		switch {
		case page < many-torn:
			wantRead(t, d, zone, page, pageOf(zone*16+page))
		case page < many:
			wantNoRead(t, d, zone, page, api.ErrTorn)
		default:
			wantNoRead(t, d, zone, page, api.ErrNone)
		}
	}
}

// Lists that are shorter than the zones tell 0 and no tearing of the others;
// what is behind the zones is of none.
func TestCrashByLists(t *testing.T) {
	for _, zones := range []int{1, 2, 24} {
		for long := range zones + 3 {
			for wide := range zones + 3 {
				d := newDevice(t, zones, 3)
				for zone := range zones {
					for page := range 3 {
						wantAppend(t, d, zone, pageOf(zone*16+page), page)
					}
				}
				keep, tear := slices.Repeat([]int{1}, long), slices.Repeat([]bool{true}, wide)
				d.Crash(keep, tear)
				for zone := range zones {
					want, torn := 0, zone < wide
					if zone < long {
						want++
					}
					if torn {
						want++
					}
					state := zns.Open
					if want == 0 {
						state = zns.Empty
					}
					wantZone(t, d, zone, state, want, want)
					if torn {
						wantNoRead(t, d, zone, want-1, api.ErrTorn)
					}
				}
				if slices.ContainsFunc(keep, func(n int) bool { return n != 1 }) || slices.Contains(tear, false) {
					t.Fatalf("%v, %v", keep, tear)
				}
			}
		}
	}
}

// A list that has room behind its end tells nothing there.
func TestCrashByListsWithRoomBehind(t *testing.T) {
	d := filled(t, 5, 0)
	keep, tear := []int{4, 4, 4, 4, 4}, []bool{true, true, true, true, true}
	d.Crash(keep[:3], tear[:3])
	wantZone(t, d, 2, zns.Open, 2, 2)
	wantZone(t, d, 3, zns.Empty, 0, 0)
	wantZone(t, d, 4, zns.Empty, 0, 0)
}

func TestCrashByNoLists(t *testing.T) {
	for sure := range 5 {
		a, b := filled(t, 24, sure), filled(t, 24, sure)
		a.Crash(nil, nil)
		b.Crash([]int{}, []bool{})
		for zone := range 24 {
			many := min(zone%5, sure)
			if a.Point(zone) != many || a.Sure(zone) != many {
				t.Fatalf("zone %d: %d, %d, want %d", zone, a.Point(zone), a.Sure(zone), many)
			}
		}
		wantSeen(t, b, seen(a))
	}
}

// A second crash, with nothing between, finds all sure.
func TestCrashTwice(t *testing.T) {
	for sure := range 5 {
		for keep := range 5 {
			d := filled(t, 5, sure)
			d.Crash([]int{0, keep, keep, keep, keep}, []bool{false, true, true, false, true})
			told := seen(d)
			d.Crash(nil, []bool{true, true, true, true, true})
			wantSeen(t, d, told)
			d.Crash([]int{-1, -1, -1, -1, -1}, nil)
			wantSeen(t, d, told)
		}
	}
}

// A torn page stays torn behind any call but Reset, and pages are written
// behind it.
func TestTornPagesStay(t *testing.T) {
	d := newDevice(t, 1, 4)
	wantAppend(t, d, 0, pageOf(1), 0)
	d.Crash(nil, []bool{true})
	wantZone(t, d, 0, zns.Open, 1, 1)
	wantNoRead(t, d, 0, 0, api.ErrTorn)
	wantAppend(t, d, 0, pageOf(2), 1)
	wantAppend(t, d, 0, pageOf(3), 2)
	wantNoRead(t, d, 0, 0, api.ErrTorn)
	wantFlush(t, d, api.OK)
	wantNoRead(t, d, 0, 0, api.ErrTorn)
	wantAppend(t, d, 0, pageOf(4), 3)
	wantZone(t, d, 0, zns.Full, 4, 3)
	d.Crash([]int{0}, []bool{true})
	wantZone(t, d, 0, zns.Full, 4, 4)
	wantNoRead(t, d, 0, 0, api.ErrTorn)
	wantRead(t, d, 0, 1, pageOf(2))
	wantRead(t, d, 0, 2, pageOf(3))
	wantNoRead(t, d, 0, 3, api.ErrTorn)
	wantNoAppend(t, d, 0, pageOf(5), api.ErrZone)
	wantFinish(t, d, 0, api.OK)
	wantReset(t, d, 0, api.OK)
	wantAppend(t, d, 0, pageOf(6), 0)
	wantRead(t, d, 0, 0, pageOf(6))
}

// What was lost is gone: a page that is written in its stead is the new one,
// and what was behind it doesn't come back.
func TestLostPagesAreGone(t *testing.T) {
	d := newDevice(t, 1, 4)
	for page := range 4 {
		wantAppend(t, d, 0, pageOf(page), page)
	}
	d.Crash([]int{1}, nil)
	wantAppend(t, d, 0, pageOf(9), 1)
	wantRead(t, d, 0, 1, pageOf(9))
	wantNoRead(t, d, 0, 2, api.ErrNone)
	d.Crash([]int{4}, []bool{true})
	wantZone(t, d, 0, zns.Open, 2, 2)
	wantRead(t, d, 0, 0, pageOf(0))
	wantRead(t, d, 0, 1, pageOf(9))
	wantNoRead(t, d, 0, 2, api.ErrNone)
}

// R3: nothing is shared with an argument, nor with another answer.

func TestArgumentsAreNotKept(t *testing.T) {
	b := pageOf(1)
	d := newDevice(t, 2, 4)
	wantAppend(t, d, 0, b, 0)
	wantAppend(t, d, 1, b, 0)
	if !bytes.Equal(b, pageOf(1)) {
		t.Fatalf("%v", b)
	}
	clear(b)
	wantRead(t, d, 0, 0, pageOf(1))
	wantRead(t, d, 1, 0, pageOf(1))

	page := pageOf(2)
	zone := [][]byte{page, nil, page}
	l := [][][]byte{zone, zone, nil}
	d = loaded(t, 4, l)
	if !bytes.Equal(page, pageOf(2)) || len(zone) != 3 || zone[1] != nil || len(l) != 3 || l[2] != nil {
		t.Fatalf("%v", l)
	}
	told := seen(d)
	clear(page)
	wantSeen(t, d, told)
	zone[1], zone[2] = page, nil
	wantSeen(t, d, told)
	l[1], l[2] = nil, zone
	wantSeen(t, d, told)
	wantReset(t, d, 0, api.OK)
	wantAppend(t, d, 0, pageOf(5), 0)
	wantRead(t, d, 1, 0, pageOf(2))
	if !slices.Equal(page, make([]byte, 33)) {
		t.Fatalf("%v", page)
	}
}

func TestRoomBehindArgumentsIsNotWritten(t *testing.T) {
	room := append(pageOf(1), pageOf(2)...)
	d := newDevice(t, 1, 4)
	wantAppend(t, d, 0, room[:33], 0)
	zones := [][][]byte{{pageOf(3), pageOf(4)}, nil}
	other := loaded(t, 4, [][][]byte{zones[0][:1]})
	wantAppend(t, other, 0, pageOf(5), 1)
	wantAppend(t, d, 0, pageOf(6), 1)
	got, err := d.Read(0, 0)
	if err != nil {
		t.Fatal(err)
	}
	_ = append(got, 1, 2, 3)
	if !bytes.Equal(room[33:], pageOf(2)) || !bytes.Equal(zones[0][1], pageOf(4)) {
		t.Errorf("%v, %v", room, zones)
	}
	wantRead(t, d, 0, 0, pageOf(1))
	wantRead(t, d, 0, 1, pageOf(6))
}

func TestAnswersAreNotKept(t *testing.T) {
	d := loaded(t, 4, [][][]byte{{pageOf(1)}})
	wantAppend(t, d, 0, pageOf(2), 1)
	for page := range 2 {
		first, _ := d.Read(0, page)
		second, _ := d.Read(0, page)
		clear(first)
		if !bytes.Equal(second, pageOf(page+1)) {
			t.Errorf("%v", second)
		}
		wantRead(t, d, 0, page, pageOf(page+1))
	}
	answer, _ := d.Read(0, 1)
	wantReset(t, d, 0, api.OK)
	wantAppend(t, d, 0, pageOf(3), 0)
	wantAppend(t, d, 0, pageOf(4), 1)
	d.Crash([]int{1}, []bool{true})
	if !bytes.Equal(answer, pageOf(2)) {
		t.Errorf("%v", answer)
	}
}

// Devices know nothing of one another.
func TestDevicesStandAlone(t *testing.T) {
	l := [][][]byte{{pageOf(1)}, nil}
	a, b, c := loaded(t, 4, l), loaded(t, 4, l), newDevice(t, 2, 4)
	told, none := seen(b), seen(c)
	wantAppend(t, a, 0, pageOf(2), 1)
	wantFinish(t, a, 0, api.OK)
	a.Fuse(0)
	wantFlush(t, a, api.ErrDown)
	wantSeen(t, b, told)
	wantSeen(t, c, none)
	wantFlush(t, b, api.OK)
	wantFlush(t, c, api.OK)
	a.Crash(nil, nil)
	wantPower(t, b, false, 1)
	wantPower(t, a, false, 2)
}

// P7.5, and all calls in any order, held against another device that is made
// by the document's words alone.

// leaf is a page of the other device.
type leaf struct {
	text       string
	torn, sure bool
}

// other is a device whose pages are kept one by one, each with what is told of
// it, and whose fuse counts how many calls were done since it was set.
type other struct {
	zones    [][]leaf
	finished map[int]bool
	pages    int
	fuse     int
	since    int
	ops      int
	down     bool
}

func newOther(zones, pages int) *other {
	return &other{zones: make([][]leaf, zones), finished: map[int]bool{}, pages: pages, fuse: -1}
}

func (o *other) has(zone int) bool { return 0 <= zone && zone < len(o.zones) }

func (o *other) state(zone int) int {
	if !o.has(zone) || len(o.zones[zone]) == 0 {
		return 0
	}
	if o.finished[zone] || len(o.zones[zone]) == o.pages {
		return 2
	}
	return 1
}

// burn tells whether one more call is done, and counts it.
func (o *other) burn() api.Errno {
	if o.fuse >= 0 && o.since >= o.fuse {
		o.down = true
		return api.ErrDown
	}
	o.since++
	o.ops++
	return api.OK
}

func (o *other) append(zone int, b []byte) (int, api.Errno) {
	if o.down {
		return 0, api.ErrDown
	}
	if !o.has(zone) || len(b) != 33 {
		return 0, api.ErrArg
	}
	if o.state(zone) == 2 {
		return 0, api.ErrZone
	}
	if e := o.burn(); e != api.OK {
		return 0, e
	}
	o.zones[zone] = append(slices.Clone(o.zones[zone]), leaf{text: string(b)})
	return len(o.zones[zone]) - 1, api.OK
}

func (o *other) read(zone, page int) (string, api.Errno) {
	if o.down {
		return "", api.ErrDown
	}
	if !o.has(zone) || page < 0 || page > o.pages-1 {
		return "", api.ErrArg
	}
	if page > len(o.zones[zone])-1 {
		return "", api.ErrNone
	}
	if l := o.zones[zone][page]; !l.torn {
		return l.text, api.OK
	}
	return "", api.ErrTorn
}

func (o *other) reset(zone int) api.Errno {
	if o.down {
		return api.ErrDown
	}
	if !o.has(zone) {
		return api.ErrArg
	}
	if e := o.burn(); e != api.OK {
		return e
	}
	o.zones[zone] = nil
	delete(o.finished, zone)
	return api.OK
}

func (o *other) finish(zone int) api.Errno {
	if o.down {
		return api.ErrDown
	}
	if !o.has(zone) {
		return api.ErrArg
	}
	if o.state(zone) == 0 {
		return api.ErrState
	}
	if e := o.burn(); e != api.OK {
		return e
	}
	o.finished[zone] = true
	return api.OK
}

func (o *other) flush() api.Errno {
	if o.down {
		return api.ErrDown
	}
	if e := o.burn(); e != api.OK {
		return e
	}
	for _, zone := range o.zones {
		for page := range zone {
			zone[page].sure = true
		}
	}
	return api.OK
}

func (o *other) sure(zone int) int {
	many := 0
	if o.has(zone) {
		for _, l := range o.zones[zone] {
			if l.sure {
				many++
			}
		}
	}
	return many
}

func (o *other) point(zone int) int {
	if !o.has(zone) {
		return 0
	}
	return len(o.zones[zone])
}

func (o *other) crash(keep []int, tear []bool) {
	for zone := range o.zones {
		kept, torn := 0, false
		if zone < len(keep) {
			kept = keep[zone]
		}
		if zone < len(tear) {
			torn = tear[zone]
		}
		var left []leaf
		for _, l := range o.zones[zone] {
			switch {
			case l.sure:
			case kept > 0:
				kept--
			case torn:
				l.torn, torn = true, false
			default:
				continue
			}
			l.sure = true
			left = append(left, l)
		}
		o.zones[zone] = left
	}
	o.down, o.fuse = false, -1
}

// wantLike holds all that a device tells against the other one.
func wantLike(t *testing.T, d *zns.Device, o *other) {
	t.Helper()
	if d.Zones() != len(o.zones) || d.Pages() != o.pages {
		t.Fatalf("Zones %d, Pages %d", d.Zones(), d.Pages())
	}
	wantPower(t, d, o.down, o.ops)
	for zone := -1; zone <= len(o.zones); zone++ {
		wantZone(t, d, zone, o.state(zone), o.point(zone), o.sure(zone))
		for page := -1; page <= o.pages; page++ {
			got, err := d.Read(zone, page)
			text, e := o.read(zone, page)
			if string(got) != text || fault.Code(err) != e || (err == nil) != (e == api.OK) {
				t.Fatalf("Read(%d, %d) = %v, %v, want %v, %v", zone, page, got, err, []byte(text), e)
			}
		}
	}
}

// dice tells numbers by a short rule.
type dice uint32

// of tells one of so many numbers.
func (r *dice) of(many int) int {
	*r = *r*1664525 + 1013904223
	return int(*r>>8) % many
}

// step does one call on both devices, and holds the answers.
func step(t *testing.T, r *dice, d *zns.Device, o *other) {
	t.Helper()
	zone := r.of(len(o.zones)+2) - 1
	switch r.of(16) {
	case 0:
		e := o.reset(zone)
		wantReset(t, d, zone, e)
	case 1:
		e := o.finish(zone)
		wantFinish(t, d, zone, e)
	case 2, 3:
		e := o.flush()
		wantFlush(t, d, e)
	case 4:
		n := r.of(24) - 2
		d.Fuse(n)
		o.fuse, o.since = n, 0
	case 5:
		crash(r, d, o)
	case 6:
		b := pageOf(r.of(1 << 16))[:r.of(33)]
		_, e := o.append(zone, b)
		wantNoAppend(t, d, zone, b, e)
	default:
		b := pageOf(r.of(1 << 16))
		page, e := o.append(zone, b)
		if e != api.OK {
			wantNoAppend(t, d, zone, b, e)
			return
		}
		wantAppend(t, d, zone, b, page)
		clear(b)
	}
}

// crash does a crash on both devices.
func crash(r *dice, d *zns.Device, o *other) {
	keep, tear := make([]int, r.of(len(o.zones)+3)), make([]bool, r.of(len(o.zones)+3))
	for i := range keep {
		keep[i] = r.of(o.pages+3) - 1
	}
	for i := range tear {
		tear[i] = r.of(2) > 0
	}
	d.Crash(keep, tear)
	o.crash(keep, tear)
}

func TestAnyCalls(t *testing.T) {
	for seed := range 300 {
		r := dice(seed)
		zones, pages := 1+r.of(5), 1+r.of(6)
		if seed%50 == 0 {
			zones, pages = 24, 16
		}
		d, o := newDevice(t, zones, pages), newOther(zones, pages)
		for range 150 {
			step(t, &r, d, o)
			wantLike(t, d, o)
			if o.down && r.of(3) == 0 {
				crash(&r, d, o)
				wantLike(t, d, o)
			}
		}
	}
}

// What is sure stays, what stays is a beginning, and a page that isn't torn is
// as it was written: over many crashes, without the other device's help.
func TestWhatStays(t *testing.T) {
	for seed := range 200 {
		r := dice(seed * 77)
		d := newDevice(t, 3, 8)
		var written [3][][]byte
		for crashes := range 12 {
			d.Fuse(r.of(30))
			for calls := 0; !d.Down() && calls < 40; calls++ {
				zone := r.of(3)
				b := pageOf(crashes*64 + calls)
				if page, err := d.Append(zone, b); err == nil {
					written[zone] = append(written[zone][:page:page], b)
				} else if fault.Is(err, api.ErrZone) && d.Reset(zone) == nil {
					written[zone] = nil
				}
				if r.of(5) == 0 {
					_ = d.Flush()
				}
			}
			points, sures := [3]int{}, [3]int{}
			for zone := range 3 {
				points[zone], sures[zone] = d.Point(zone), d.Sure(zone)
			}
			d.Crash([]int{r.of(9), r.of(9)}, []bool{r.of(2) > 0, false, r.of(2) > 0})
			for zone := range 3 {
				written[zone] = wantBeginning(t, d, zone, points[zone], sures[zone], written[zone])
			}
		}
	}
}

// wantBeginning holds what stays of a zone against what was written into it,
// and tells what of that stays. A page that tore is the last one, at first; it
// is told by none in written, from then on.
func wantBeginning(t *testing.T, d *zns.Device, zone, point, sure int, written [][]byte) [][]byte {
	t.Helper()
	stays := d.Point(zone)
	if stays < sure || stays > point || d.Sure(zone) != stays || point != len(written) {
		t.Fatalf("zone %d: %d of %d pages stay, of which %d were sure", zone, stays, point, sure)
	}
	for page := range stays {
		got, err := d.Read(zone, page)
		switch {
		case fault.Is(err, api.ErrTorn) && page == stays-1 && page >= sure:
			written[page] = nil
		case fault.Is(err, api.ErrTorn) && written[page] == nil:
		case err != nil || !bytes.Equal(got, written[page]):
			t.Fatalf("Read(%d, %d) = %v, %v, want %v", zone, page, got, err, written[page])
		}
	}
	return written[:stays]
}
