package zones_test

import (
	"math"
	"slices"
	"testing"

	"platelayer/api"
	"platelayer/fault"
	"platelayer/zones"
)

// far are numbers of zones that no table has, and of which there is no table:
// some are as zones are, but for their upper bits, or but for their sign.
var far = []int{math.MinInt, math.MinInt + 1, math.MinInt + 24, math.MinInt32, -1 << 32, -1<<32 + 1, -1<<32 + 24, -256, -255, -25, -24, -23, -3, -2, -1, 25, 26, 32, 48, 64, 255, 256, 257, 1 << 16, 1<<16 + 1, math.MaxInt32, 1 << 31, math.MaxUint32, 1 << 32, 1<<32 + 1, 1<<32 + 24, 1 << 60, math.MaxInt - 24, math.MaxInt - 1, math.MaxInt}

func newTable(t *testing.T, many int) *zones.Table {
	t.Helper()
	z, err := zones.New(many)
	if err != nil || z == nil {
		t.Fatalf("New(%d) = %v, %v", many, z, err)
	}
	return z
}

func wantNoNew(t *testing.T, many int) {
	t.Helper()
	z, err := zones.New(many)
	if z != nil || fault.Code(err) != api.ErrArg || !fault.Is(err, api.ErrArg) {
		t.Fatalf("New(%d) = %v, %v", many, z, err)
	}
}

func wantTake(t *testing.T, z *zones.Table, want int) {
	t.Helper()
	if got, ok := z.Take(); got != want || !ok {
		t.Fatalf("Take() = %d, %v, want %d", got, ok, want)
	}
}

func wantNoTake(t *testing.T, z *zones.Table) {
	t.Helper()
	if got, ok := z.Take(); got != 0 || ok {
		t.Fatalf("Take() = %d, %v, want none", got, ok)
	}
}

func wantClose(t *testing.T, z *zones.Table, zone int, want bool) {
	t.Helper()
	if got := z.Close(zone); got != want {
		t.Fatalf("Close(%d) = %v", zone, got)
	}
}

func wantGive(t *testing.T, z *zones.Table, zone int, want bool) {
	t.Helper()
	if got := z.Give(zone); got != want {
		t.Fatalf("Give(%d) = %v", zone, got)
	}
}

// wantZone holds how a zone is, and its age.
func wantZone(t *testing.T, z *zones.Table, zone, state int, age uint32) {
	t.Helper()
	if got, ok := z.State(zone); got != state || !ok {
		t.Fatalf("State(%d) = %d, %v, want %d", zone, got, ok, state)
	}
	if got := z.Age(zone); got != age {
		t.Fatalf("Age(%d) = %d, want %d", zone, got, age)
	}
}

func wantNoZone(t *testing.T, z *zones.Table, zone int) {
	t.Helper()
	if got, ok := z.State(zone); got != 0 || ok {
		t.Fatalf("State(%d) = %d, %v, want none", zone, got, ok)
	}
	if got := z.Age(zone); got != 0 {
		t.Fatalf("Age(%d) = %d, want 0", zone, got)
	}
}

func wantRows(t *testing.T, z *zones.Table, free, closed []int) {
	t.Helper()
	if a, b := z.Free(), z.Closed(); !slices.Equal(a, free) || !slices.Equal(b, closed) {
		t.Fatalf("Free %v, Closed %v, want %v, %v", a, b, free, closed)
	}
}

// to is the numbers from 0 on, so many of them.
func to(many int) []int {
	l := make([]int, many)
	for i := range l {
		l[i] = i
	}
	return l
}

// step is what was done to a zone: how it is behind that.
type step struct {
	zone, state int
}

// other is a table by the document's words alone: all steps that were done, the
// first one first. At first all zones are given, in their order.
type other struct {
	many  int
	steps []step
}

func newOther(many int) *other {
	o := &other{many: many}
	for zone := range many {
		o.steps = append(o.steps, step{zone, 0})
	}
	return o
}

// last tells the place of a zone's last step.
func (o *other) last(zone int) int {
	for at, s := range slices.Backward(o.steps) {
		if s.zone == zone {
			return at
		}
	}
	return -1
}

func (o *other) state(zone int) (int, bool) {
	if zone < 0 || zone >= o.many {
		return 0, false
	}
	return o.steps[o.last(zone)].state, true
}

// in tells whether a zone is so.
func (o *other) in(zone, state int) bool {
	got, there := o.state(zone)
	return there && got == state
}

// row tells the zones that are so, in the order of their last steps.
func (o *other) row(state int) []int {
	var l []int
	for at, s := range o.steps {
		if s.state == state && o.last(s.zone) == at {
			l = append(l, s.zone)
		}
	}
	return l
}

func (o *other) age(zone int) uint32 {
	if !o.in(zone, 2) {
		return 0
	}
	age := uint32(0)
	for _, s := range o.steps[o.last(zone)+1:] {
		if s.state == 2 {
			age++
		}
	}
	return age
}

func (o *other) do(zone, state int) bool {
	o.steps = append(o.steps, step{zone, state})
	return true
}

func (o *other) take() (int, bool) {
	free := o.row(0)
	if len(free) == 0 {
		return 0, false
	}
	return free[0], o.do(free[0], 1)
}

func (o *other) close(zone int) bool {
	return o.in(zone, 1) && o.do(zone, 2)
}

func (o *other) give(zone int) bool {
	return (o.in(zone, 1) || o.in(zone, 2)) && o.do(zone, 0)
}

// both is a table beside the other one. Each call is done on both.
type both struct {
	t *testing.T
	z *zones.Table
	o *other
}

func newBoth(t *testing.T, many int) both {
	t.Helper()
	return both{t, newTable(t, many), newOther(many)}
}

func (b both) take() {
	b.t.Helper()
	if zone, ok := b.o.take(); ok {
		wantTake(b.t, b.z, zone)
	} else {
		wantNoTake(b.t, b.z)
	}
}

func (b both) close(zone int) {
	b.t.Helper()
	wantClose(b.t, b.z, zone, b.o.close(zone))
}

func (b both) give(zone int) {
	b.t.Helper()
	wantGive(b.t, b.z, zone, b.o.give(zone))
}

// alike holds that both tell the same of each zone, and in their rows.
func (b both) alike() {
	b.t.Helper()
	for zone := -2; zone < b.o.many+3; zone++ {
		if state, there := b.o.state(zone); there {
			wantZone(b.t, b.z, zone, state, b.o.age(zone))
		} else {
			wantNoZone(b.t, b.z, zone)
		}
	}
	wantRows(b.t, b.z, b.o.row(0), b.o.row(2))
}

// nothing holds that numbers of no zone tell and do nothing.
func (b both) nothing() {
	b.t.Helper()
	for _, zone := range append([]int{b.o.many, b.o.many + 1, 2 * b.o.many, -b.o.many, 24}, far...) {
		if zone >= 0 && zone < b.o.many {
			continue
		}
		wantNoZone(b.t, b.z, zone)
		wantClose(b.t, b.z, zone, false)
		wantGive(b.t, b.z, zone, false)
		wantNoZone(b.t, b.z, zone)
	}
	b.alike()
}

// P13.1

// How zones are is told by numbers.
func TestStates(t *testing.T) {
	if zones.Free != 0 || zones.Open != 1 || zones.Closed != 2 {
		t.Fatalf("%d, %d, %d", zones.Free, zones.Open, zones.Closed)
	}
}

func TestNew(t *testing.T) {
	for many := 1; many <= 24; many++ {
		z := newTable(t, many)
		wantRows(t, z, to(many), nil)
		for zone := range many {
			wantZone(t, z, zone, zones.Free, 0)
		}
		wantNoZone(t, z, many)
		wantNoZone(t, z, -1)
		b := newBoth(t, many)
		b.alike()
		b.nothing()
	}
}

func TestNewOfWhatMayNotBe(t *testing.T) {
	wantNoNew(t, 0)
	wantNoNew(t, api.MostZones+1)
	for _, many := range far {
		wantNoNew(t, many)
	}
}

// The chapter's example.
func TestExample(t *testing.T) {
	z := newTable(t, 3)
	wantTake(t, z, 0)
	wantTake(t, z, 1)
	wantClose(t, z, 1, true)
	wantGive(t, z, 0, true)
	wantRows(t, z, []int{2, 0}, []int{1})
}

// Tables of which all are open, and all are closed, of all sizes.
func TestAllOpenAndAllClosed(t *testing.T) {
	for many := 1; many <= 24; many++ {
		b := newBoth(t, many)
		for range many {
			b.take()
			b.alike()
		}
		wantRows(t, b.z, nil, nil)
		for zone := range many {
			wantZone(t, b.z, zone, zones.Open, 0)
		}
		b.nothing()
		for zone := range many {
			b.close(zone)
			b.alike()
		}
		wantRows(t, b.z, nil, to(many))
		for zone := range many {
			wantZone(t, b.z, zone, zones.Closed, uint32(many-1-zone))
		}
		b.nothing()
		for zone := range many {
			b.give(many - 1 - zone)
			b.alike()
		}
		back := to(many)
		slices.Reverse(back)
		wantRows(t, b.z, back, nil)
		b.nothing()
	}
}

// Ages count Closes that were true, and nothing else.
func TestAge(t *testing.T) {
	z := newTable(t, 4)
	for zone := range 3 {
		wantTake(t, z, zone)
		wantZone(t, z, zone, zones.Open, 0)
	}
	wantClose(t, z, 1, true)
	wantZone(t, z, 1, zones.Closed, 0)
	wantClose(t, z, 1, false)
	wantClose(t, z, 3, false)
	wantClose(t, z, 4, false)
	wantClose(t, z, -1, false)
	wantZone(t, z, 1, zones.Closed, 0)
	wantTake(t, z, 3)
	wantNoTake(t, z)
	wantGive(t, z, 2, true)
	wantGive(t, z, 2, false)
	wantGive(t, z, 9, false)
	wantZone(t, z, 1, zones.Closed, 0)
	wantClose(t, z, 3, true)
	wantZone(t, z, 1, zones.Closed, 1)
	wantZone(t, z, 3, zones.Closed, 0)
	wantClose(t, z, 0, true)
	wantZone(t, z, 1, zones.Closed, 2)
	wantZone(t, z, 3, zones.Closed, 1)
	wantZone(t, z, 0, zones.Closed, 0)
	wantRows(t, z, []int{2}, []int{1, 3, 0})
	wantGive(t, z, 3, true)
	wantZone(t, z, 3, zones.Free, 0)
	wantZone(t, z, 1, zones.Closed, 2)
	wantZone(t, z, 0, zones.Closed, 0)
	wantRows(t, z, []int{2, 3}, []int{1, 0})
}

// An age counts from the last Close alone, and may be more than there are zones.
func TestAgeOfOneThatIsClosedAgain(t *testing.T) {
	z := newTable(t, 2)
	wantTake(t, z, 0)
	wantTake(t, z, 1)
	wantClose(t, z, 0, true)
	for n := range uint32(700) {
		wantZone(t, z, 0, zones.Closed, n)
		wantClose(t, z, 1, true)
		wantZone(t, z, 1, zones.Closed, 0)
		wantZone(t, z, 0, zones.Closed, n+1)
		wantRows(t, z, nil, []int{0, 1})
		wantGive(t, z, 1, true)
		wantZone(t, z, 1, zones.Free, 0)
		wantTake(t, z, 1)
		wantZone(t, z, 1, zones.Open, 0)
	}
	wantGive(t, z, 0, true)
	wantZone(t, z, 0, zones.Free, 0)
	wantTake(t, z, 0)
	wantZone(t, z, 0, zones.Open, 0)
	wantClose(t, z, 0, true)
	wantZone(t, z, 0, zones.Closed, 0)
	wantClose(t, z, 1, true)
	wantZone(t, z, 0, zones.Closed, 1)
	wantZone(t, z, 1, zones.Closed, 0)
	wantRows(t, z, nil, []int{0, 1})
}

// An age has more than 16 bits.
func TestGreatAge(t *testing.T) {
	z := newTable(t, 2)
	wantTake(t, z, 0)
	wantTake(t, z, 1)
	wantClose(t, z, 0, true)
	for range 1<<17 + 3 {
		wantClose(t, z, 1, true)
		wantGive(t, z, 1, true)
		wantTake(t, z, 1)
	}
	wantZone(t, z, 0, zones.Closed, 1<<17+3)
	wantZone(t, z, 1, zones.Open, 0)
}

// P13.2

// All are taken, and once more.
func TestTake(t *testing.T) {
	for _, many := range []int{1, 2, 11, 24} {
		z := newTable(t, many)
		for zone := range many {
			wantRows(t, z, to(many)[zone:], nil)
			wantTake(t, z, zone)
			wantZone(t, z, zone, zones.Open, 0)
		}
		wantRows(t, z, nil, nil)
		wantNoTake(t, z)
		wantNoTake(t, z)
		wantRows(t, z, nil, nil)
		wantGive(t, z, many-1, true)
		wantTake(t, z, many-1)
		wantNoTake(t, z)
		wantClose(t, z, 0, true)
		wantNoTake(t, z)
		wantZone(t, z, 0, zones.Closed, 0)
		wantRows(t, z, nil, []int{0})
	}
}

// Each zone of all sizes is closed and given alone, in each of the three ways
// that it may be.
func TestCloseAndGiveOfOne(t *testing.T) {
	for many := 1; many <= 24; many++ {
		for zone := range many {
			b := newBoth(t, many)
			b.close(zone)
			wantZone(t, b.z, zone, zones.Free, 0)
			b.give(zone)
			wantRows(t, b.z, to(many), nil)
			for range zone + 1 {
				b.take()
			}
			b.alike()
			wantClose(t, b.z, zone, b.o.close(zone))
			wantZone(t, b.z, zone, zones.Closed, 0)
			b.close(zone)
			wantRows(t, b.z, to(many)[zone+1:], []int{zone})
			b.alike()
			b.give(zone)
			wantZone(t, b.z, zone, zones.Free, 0)
			wantRows(t, b.z, append(to(many)[zone+1:], zone), nil)
			b.give(zone)
			b.close(zone)
			wantRows(t, b.z, append(to(many)[zone+1:], zone), nil)
			b.alike()
			b.nothing()
		}
	}
}

// One that is open is given without being closed; no age changes by that.
func TestGiveOfAnOpenOne(t *testing.T) {
	z := newTable(t, 3)
	wantTake(t, z, 0)
	wantTake(t, z, 1)
	wantClose(t, z, 0, true)
	wantGive(t, z, 1, true)
	wantZone(t, z, 1, zones.Free, 0)
	wantZone(t, z, 0, zones.Closed, 0)
	wantRows(t, z, []int{2, 1}, []int{0})
	wantClose(t, z, 1, false)
	wantGive(t, z, 1, false)
	wantTake(t, z, 2)
	wantTake(t, z, 1)
	wantNoTake(t, z)
}

// What is free isn't moved behind all by another Give.
func TestGiveOfAFreeOne(t *testing.T) {
	z := newTable(t, 3)
	for zone := range 3 {
		wantGive(t, z, zone, false)
		wantRows(t, z, []int{0, 1, 2}, nil)
	}
	wantTake(t, z, 0)
	wantGive(t, z, 0, true)
	wantGive(t, z, 1, false)
	wantGive(t, z, 0, false)
	wantRows(t, z, []int{1, 2, 0}, nil)
}

// P13.3

// All orders of four zones that are closed, and of four that are given: who was
// first stays first.
func TestFirstStaysFirst(t *testing.T) {
	orders(4, func(order []int) {
		z := newTable(t, 4)
		for zone := range 4 {
			wantTake(t, z, zone)
		}
		for n, zone := range order {
			wantClose(t, z, zone, true)
			wantRows(t, z, nil, order[:n+1])
			for older, first := range order[:n+1] {
				wantZone(t, z, first, zones.Closed, uint32(n-older))
			}
		}
		orders(4, func(other []int) {
			left := slices.Clone(order)
			for n, zone := range other {
				wantGive(t, z, zone, true)
				left = slices.DeleteFunc(left, func(l int) bool { return l == zone })
				wantRows(t, z, other[:n+1], left)
			}
			for _, zone := range other {
				wantTake(t, z, zone)
			}
			wantNoTake(t, z)
			for _, zone := range order {
				wantClose(t, z, zone, true)
			}
			wantRows(t, z, nil, order)
		})
	})
}

// orders hands out all orders of the numbers from 0 on.
func orders(many int, each func(order []int)) {
	var more func(order []int)
	more = func(order []int) {
		if len(order) == many {
			each(order)
		}
		for n := range many {
			if !slices.Contains(order, n) {
				more(append(slices.Clone(order), n))
			}
		}
	}
	more(nil)
}

// dice tells numbers by a short rule.
type dice uint32

// of tells one of so many numbers.
func (r *dice) of(many int) int {
	*r = *r*1664525 + 1013904223
	return int(*r>>8) % many
}

// zone tells a zone of so many, or at times one that isn't there.
func (r *dice) zone(many int) int {
	if r.of(12) == 0 {
		return append(far, many, many+1)[r.of(len(far)+2)]
	}
	return r.of(many)
}

// Many calls on all sizes, of which some take more than they give, and some
// less. Each zone is one of the three throughout.
func TestAnyCalls(t *testing.T) {
	for many := 1; many <= 24; many++ {
		r := dice(many)
		b := newBoth(t, many)
		for _, lot := range [][3]int{{6, 9, 10}, {3, 8, 10}, {1, 3, 10}, {4, 8, 10}} {
			for range 150 {
				switch n := r.of(lot[2]); {
				case n < lot[0]:
					b.take()
				case n < lot[1]:
					b.close(r.zone(many))
				default:
					b.give(r.zone(many))
				}
				b.alike()
			}
			b.nothing()
		}
	}
}

// All rows of calls of a few: of seven on two zones, and of six on three.
func TestAllRowsOfFewCalls(t *testing.T) {
	for many, long := range map[int]int{1: 6, 2: 7, 3: 6} {
		calls := 2*many + 1
		rows := 1
		for range long {
			rows *= calls
		}
		for row := range rows {
			b := newBoth(t, many)
			for range long {
				switch n := row % calls; {
				case n == 0:
					b.take()
				case n%2 == 0:
					b.close(n/2 - 1)
				default:
					b.give(n / 2)
				}
				row /= calls
			}
			b.alike()
		}
	}
}

// R3: what is told shares nothing with what is kept, nor with what is told
// anew.

// five makes a table of seven zones, whose rows are 5 6 3 and 4 0 1; 2 is open.
func five(t *testing.T) *zones.Table {
	t.Helper()
	z := newTable(t, 7)
	for zone := range 5 {
		wantTake(t, z, zone)
	}
	for _, zone := range []int{4, 0, 1} {
		wantClose(t, z, zone, true)
	}
	wantGive(t, z, 3, true)
	return z
}

func TestAnswersAreNotKept(t *testing.T) {
	z := five(t)
	holds := func() {
		t.Helper()
		wantRows(t, z, []int{5, 6, 3}, []int{4, 0, 1})
		wantZone(t, z, 4, zones.Closed, 2)
		wantZone(t, z, 2, zones.Open, 0)
		wantZone(t, z, 5, zones.Free, 0)
	}
	holds()
	for _, row := range []func() []int{z.Free, z.Closed} {
		first, second := row(), row()
		was := slices.Clone(second)
		for i := range first {
			first[i] = 2
		}
		_ = append(first, 2, 2)
		_ = append(first[:0], 2, 2, 2, 2)
		if !slices.Equal(second, was) {
			t.Fatalf("%v, was %v", second, was)
		}
		holds()
	}
	free, closed := z.Free(), z.Closed()
	_ = append(free, 1, 1, 1)
	wantGive(t, z, 0, true)
	_ = append(closed[:1], 6, 6)
	wantRows(t, z, []int{5, 6, 3, 0}, []int{4, 1})
	wantClose(t, z, 2, true)
	_ = append(free, 1, 1, 1)
	wantRows(t, z, []int{5, 6, 3, 0}, []int{4, 1, 2})
}

// An answer stays as it is, whatever call follows it.
func TestAnswersStay(t *testing.T) {
	z := five(t)
	free, closed := z.Free(), z.Closed()
	holds := func() {
		t.Helper()
		if !slices.Equal(free, []int{5, 6, 3}) || !slices.Equal(closed, []int{4, 0, 1}) {
			t.Fatalf("Free: %v, Closed: %v", free, closed)
		}
	}
	for zone := range 7 {
		z.Give(zone)
		holds()
		z.Free()
		z.Closed()
		holds()
	}
	for zone := range 7 {
		z.Take()
		holds()
		z.Close(6 - zone)
		holds()
	}
	for zone := range 7 {
		z.Close(zone)
		z.Give(zone)
		holds()
	}
}

// Tables know nothing of one another.
func TestTablesStandAlone(t *testing.T) {
	a, b := newTable(t, 3), newTable(t, 3)
	wantTake(t, a, 0)
	wantTake(t, a, 1)
	wantClose(t, a, 1, true)
	wantClose(t, a, 0, true)
	wantRows(t, b, []int{0, 1, 2}, nil)
	wantTake(t, b, 0)
	wantClose(t, b, 1, false)
	wantClose(t, b, 0, true)
	wantZone(t, b, 0, zones.Closed, 0)
	wantZone(t, a, 1, zones.Closed, 1)
	wantGive(t, a, 1, true)
	wantRows(t, a, []int{2, 1}, []int{0})
	wantRows(t, b, []int{1, 2}, []int{0})
	c := newTable(t, 24)
	wantRows(t, c, to(24), nil)
	wantNoZone(t, a, 3)
	wantZone(t, c, 3, zones.Free, 0)
}
