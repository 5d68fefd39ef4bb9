package lru_test

import (
	"math"
	"slices"
	"testing"

	"platelayer/api"
	"platelayer/fault"
	"platelayer/lru"
)

// far are numbers of which there is no slot, and no size.
var far = []int{math.MinInt, math.MinInt + 1, math.MinInt32, -1 << 32, -256, -65, -64, -2, -1, 65, 66, 127, 128, 256, 257, 1 << 16, math.MaxInt32, 1 << 32, 1<<32 + 1, math.MaxInt - 1, math.MaxInt}

func newRanking(t *testing.T, slots int) *lru.Ranking {
	t.Helper()
	k, err := lru.New(slots)
	if err != nil || k == nil {
		t.Fatalf("New(%d) = %v, %v", slots, k, err)
	}
	return k
}

// of makes a ranking whose rows are these, the first one first.
func of(t *testing.T, slots int, trial, kept []int) *lru.Ranking {
	t.Helper()
	k := newRanking(t, slots)
	for _, slot := range slices.Backward(kept) {
		wantInsert(t, k, slot, true)
		wantTouch(t, k, slot, true)
	}
	for _, slot := range slices.Backward(trial) {
		wantInsert(t, k, slot, true)
	}
	wantRows(t, k, trial, kept)
	return k
}

func wantInsert(t *testing.T, k *lru.Ranking, slot int, want bool) {
	t.Helper()
	if got := k.Insert(slot); got != want {
		t.Fatalf("Insert(%d) = %v", slot, got)
	}
}

func wantTouch(t *testing.T, k *lru.Ranking, slot int, want bool) {
	t.Helper()
	if got := k.Touch(slot); got != want {
		t.Fatalf("Touch(%d) = %v", slot, got)
	}
}

func wantRemove(t *testing.T, k *lru.Ranking, slot int, want bool) {
	t.Helper()
	if got := k.Remove(slot); got != want {
		t.Fatalf("Remove(%d) = %v", slot, got)
	}
}

func wantRows(t *testing.T, k *lru.Ranking, trial, kept []int) {
	t.Helper()
	if a, b := k.Trial(), k.Kept(); !slices.Equal(a, trial) || !slices.Equal(b, kept) {
		t.Fatalf("Trial %v, Kept %v, want %v, %v", a, b, trial, kept)
	}
}

func wantVictim(t *testing.T, k *lru.Ranking, slot int) {
	t.Helper()
	if got, ok := k.Victim(); got != slot || !ok {
		t.Fatalf("Victim() = %d, %v, want %d", got, ok, slot)
	}
}

func wantNoVictim(t *testing.T, k *lru.Ranking) {
	t.Helper()
	if got, ok := k.Victim(); got != 0 || ok {
		t.Fatalf("Victim() = %d, %v, want none", got, ok)
	}
}

// upTo tells the numbers from 0 on, so many.
func upTo(many int) []int {
	l := make([]int, many)
	for i := range l {
		l[i] = i
	}
	return l
}

// back tells a list, the last one first.
func back(l []int) []int {
	l = slices.Clone(l)
	slices.Reverse(l)
	return l
}

// P8.1

func TestNew(t *testing.T) {
	for slots := -3; slots <= 70; slots++ {
		if slots < 1 || slots > 64 {
			wantNoNew(t, slots)
			continue
		}
		k := newRanking(t, slots)
		wantRows(t, k, nil, nil)
		wantNoVictim(t, k)
		for slot := -2; slot < 70; slot++ {
			wantTouch(t, k, slot, false)
			wantRemove(t, k, slot, false)
		}
		wantRows(t, k, nil, nil)
	}
	for _, slots := range far {
		wantNoNew(t, slots)
	}
}

func wantNoNew(t *testing.T, slots int) {
	t.Helper()
	k, err := lru.New(slots)
	if k != nil || fault.Code(err) != api.ErrArg || !fault.Is(err, api.ErrArg) {
		t.Fatalf("New(%d) = %v, %v", slots, k, err)
	}
}

// The first row's last one, and the last row's first one, stand where they
// should, on all sizes.
func TestRowsTellTheFirstOneFirst(t *testing.T) {
	for slots := 1; slots <= 64; slots++ {
		k := newRanking(t, slots)
		for slot := range slots {
			wantInsert(t, k, slot, true)
			wantRows(t, k, back(upTo(slot+1)), nil)
		}
		for slot := range slots / 2 {
			wantTouch(t, k, slot, true)
			wantRows(t, k, back(upTo(slots)[slot+1:]), back(upTo(slot+1)))
		}
	}
}

// The chapter's example.
func TestExample(t *testing.T) {
	k := newRanking(t, 4)
	for slot := range 3 {
		wantInsert(t, k, slot, true)
	}
	wantTouch(t, k, 0, true)
	wantRows(t, k, []int{2, 1}, []int{0})
}

// P8.2

// Each size takes its own slots, each once, and no other.
func TestInsertOfEachSlot(t *testing.T) {
	for slots := 1; slots <= 64; slots++ {
		k := newRanking(t, slots)
		var trial []int
		for slot := 70; slot >= -3; slot-- {
			has := slot >= 0 && slot < slots
			wantInsert(t, k, slot, has)
			if has {
				trial = append([]int{slot}, trial...)
			}
			wantRows(t, k, trial, nil)
			wantInsert(t, k, slot, false)
			wantRows(t, k, trial, nil)
		}
	}
}

func TestInsertOfOneThatStands(t *testing.T) {
	k := of(t, 6, []int{3, 0, 4}, []int{5, 1})
	for _, slot := range []int{3, 0, 4, 5, 1} {
		wantInsert(t, k, slot, false)
		wantRows(t, k, []int{3, 0, 4}, []int{5, 1})
	}
	wantInsert(t, k, 2, true)
	wantRows(t, k, []int{2, 3, 0, 4}, []int{5, 1})
}

// What was removed is inserted anew, on trial, wherever it stood.
func TestInsertOfOneThatWasRemoved(t *testing.T) {
	k := of(t, 6, []int{3, 0, 4}, []int{5, 1})
	wantRemove(t, k, 4, true)
	wantInsert(t, k, 4, true)
	wantRows(t, k, []int{4, 3, 0}, []int{5, 1})
	wantRemove(t, k, 1, true)
	wantInsert(t, k, 1, true)
	wantRows(t, k, []int{1, 4, 3, 0}, []int{5})
	wantRemove(t, k, 5, true)
	wantTouch(t, k, 5, false)
	wantRows(t, k, []int{1, 4, 3, 0}, nil)
	wantInsert(t, k, 5, true)
	wantRows(t, k, []int{5, 1, 4, 3, 0}, nil)
	wantTouch(t, k, 4, true)
	wantRows(t, k, []int{5, 1, 3, 0}, []int{4})
}

// Numbers that are no slots are refused, and change nothing, whatever stands.
func TestNoSuchSlot(t *testing.T) {
	for slots := 1; slots <= 64; slots++ {
		for many := 0; many <= slots; many += max(1, slots-1) {
			trial, kept := upTo(many)[many/2:], upTo(many/2)
			k := of(t, slots, trial, kept)
			for _, slot := range append([]int{slots, slots + 1, slots + 64, slots + 256, -slots}, far...) {
				if slot == 0 || slot > 0 && slot < slots {
					continue
				}
				wantInsert(t, k, slot, false)
				wantTouch(t, k, slot, false)
				wantRemove(t, k, slot, false)
			}
			wantRows(t, k, trial, kept)
		}
	}
}

// A slot that stands in no row is neither touched nor removed.
func TestSlotsThatDoNotStand(t *testing.T) {
	k := of(t, 8, []int{1, 7}, []int{3, 0, 6})
	for _, slot := range []int{2, 4, 5} {
		wantTouch(t, k, slot, false)
		wantRemove(t, k, slot, false)
		wantRows(t, k, []int{1, 7}, []int{3, 0, 6})
	}
	wantVictim(t, k, 7)
}

// Half of the slots are kept, rounded down: what was kept last goes back on
// trial, in front, as soon as there is one more.
func TestTouchOfMoreThanThereIsRoomFor(t *testing.T) {
	for slots := 1; slots <= 64; slots++ {
		k, room := of(t, slots, upTo(slots), nil), slots/2
		for touched := 1; touched <= slots; touched++ {
			wantTouch(t, k, slots-touched, true)
			used := upTo(slots)[slots-touched:]
			kept := used[:min(room, touched)]
			trial := append(slices.Clone(used[len(kept):]), upTo(slots-touched)...)
			wantRows(t, k, trial, kept)
		}
	}
}

func TestTouchOfOneOnTrial(t *testing.T) {
	for _, c := range []struct {
		slots, slot         int
		trial, kept         []int
		trialThen, keptThen []int
	}{
		{1, 0, []int{0}, nil, []int{0}, nil},
		{2, 0, []int{0}, nil, nil, []int{0}},
		{2, 1, []int{0, 1}, nil, []int{0}, []int{1}},
		{2, 0, []int{0}, []int{1}, []int{1}, []int{0}},
		{3, 2, []int{1, 2}, []int{0}, []int{0, 1}, []int{2}},
		{3, 1, []int{1, 2}, []int{0}, []int{0, 2}, []int{1}},
		{4, 2, []int{3, 2}, []int{0, 1}, []int{1, 3}, []int{2, 0}},
		{4, 3, []int{3, 2}, []int{0, 1}, []int{1, 2}, []int{3, 0}},
		{4, 3, []int{3, 2}, []int{0}, []int{2}, []int{3, 0}},
		{5, 4, []int{2, 4, 3}, []int{0, 1}, []int{1, 2, 3}, []int{4, 0}},
		{6, 4, []int{3, 4, 5}, []int{0, 1}, []int{3, 5}, []int{4, 0, 1}},
		{6, 4, []int{3, 4, 5}, []int{0, 1, 2}, []int{2, 3, 5}, []int{4, 0, 1}},
	} {
		k := of(t, c.slots, c.trial, c.kept)
		wantTouch(t, k, c.slot, true)
		wantRows(t, k, c.trialThen, c.keptThen)
	}
}

// One that is kept stays kept: there is room for all others, as there was.
func TestTouchOfOneThatIsKept(t *testing.T) {
	for slots := 2; slots <= 64; slots++ {
		room := slots / 2
		for many := 1; many <= room; many++ {
			for _, place := range []int{0, many / 2, many - 1} {
				kept, trial := upTo(many), upTo(slots)[many:]
				k := of(t, slots, trial, kept)
				wantTouch(t, k, place, true)
				moved := slices.Concat([]int{place}, kept[:place], kept[place+1:])
				wantRows(t, k, trial, moved)
				wantTouch(t, k, place, true)
				wantRows(t, k, trial, moved)
			}
		}
	}
}

func TestRemoveFromEachPlace(t *testing.T) {
	for place := range 5 {
		l := upTo(5)
		k := of(t, 10, l, []int{5, 6, 7, 8, 9})
		wantRemove(t, k, place, true)
		rest := slices.Delete(l, place, place+1)
		wantRows(t, k, rest, []int{5, 6, 7, 8, 9})
		wantRemove(t, k, place, false)
		wantRows(t, k, rest, []int{5, 6, 7, 8, 9})

		l = upTo(5)
		k = of(t, 10, []int{5, 6, 7, 8, 9}, l)
		wantRemove(t, k, place, true)
		rest = slices.Delete(l, place, place+1)
		wantRows(t, k, []int{5, 6, 7, 8, 9}, rest)
		wantRemove(t, k, place, false)
		wantTouch(t, k, place, false)
		wantRows(t, k, []int{5, 6, 7, 8, 9}, rest)
	}
}

// Who goes out of the kept row makes room there.
func TestRemoveMakesRoom(t *testing.T) {
	k := of(t, 4, []int{3, 2}, []int{0, 1})
	wantRemove(t, k, 0, true)
	wantTouch(t, k, 2, true)
	wantRows(t, k, []int{3}, []int{2, 1})
	wantTouch(t, k, 3, true)
	wantRows(t, k, []int{1}, []int{3, 2})
	wantRemove(t, k, 1, true)
	wantTouch(t, k, 2, true)
	wantRows(t, k, nil, []int{2, 3})
}

// P8.3

func TestVictim(t *testing.T) {
	for _, c := range []struct {
		slots, victim int
		trial, kept   []int
	}{
		{1, 0, []int{0}, nil},
		{2, 1, []int{1}, nil},
		{2, 1, nil, []int{1}},
		{2, 0, nil, []int{0}},
		{2, 1, []int{1}, []int{0}},
		{2, 0, []int{0}, []int{1}},
		{8, 2, []int{5, 2}, []int{0, 7}},
		{8, 5, []int{5}, []int{0, 7}},
		{8, 7, nil, []int{0, 7}},
		{8, 0, nil, []int{7, 3, 0}},
		{64, 63, []int{63}, upTo(32)},
		{64, 31, nil, upTo(32)},
		{64, 63, upTo(64), nil},
	} {
		k := of(t, c.slots, c.trial, c.kept)
		for range 3 {
			wantVictim(t, k, c.victim)
			wantRows(t, k, c.trial, c.kept)
		}
	}
}

// Victims go in the order of both rows, from behind, and none is left.
func TestVictimTillNoneIsThere(t *testing.T) {
	for slots := 1; slots <= 64; slots++ {
		kept, trial := upTo(slots/2), upTo(slots)[slots/2:]
		k := of(t, slots, trial, kept)
		for _, slot := range append(back(trial), back(kept)...) {
			wantVictim(t, k, slot)
			wantRemove(t, k, slot, true)
			wantRemove(t, k, slot, false)
		}
		wantNoVictim(t, k)
		wantRows(t, k, nil, nil)
		wantInsert(t, k, slots-1, true)
		wantVictim(t, k, slots-1)
		wantRows(t, k, []int{slots - 1}, nil)
	}
}

// P8.4, and all calls, held against other rows that are made by the document's
// words alone.

// other is two rows as lists, the first one first.
type other struct {
	slots       int
	trial, kept []int
}

func (o *other) stands(slot int) bool {
	return slices.Contains(o.trial, slot) || slices.Contains(o.kept, slot)
}

func (o *other) insert(slot int) bool {
	if slot < 0 || slot > o.slots-1 || o.stands(slot) {
		return false
	}
	o.trial = append([]int{slot}, o.trial...)
	return true
}

func (o *other) remove(slot int) bool {
	if !o.stands(slot) {
		return false
	}
	o.trial, o.kept = without(o.trial, slot), without(o.kept, slot)
	return true
}

func (o *other) touch(slot int) bool {
	if !o.stands(slot) {
		return false
	}
	o.trial = without(o.trial, slot)
	o.kept = append([]int{slot}, without(o.kept, slot)...)
	if 2*len(o.kept) > o.slots {
		last := o.kept[len(o.kept)-1]
		o.kept = without(o.kept, last)
		o.trial = append([]int{last}, o.trial...)
	}
	return true
}

func (o *other) victim() (int, bool) {
	l := o.trial
	if len(l) == 0 {
		l = o.kept
	}
	if len(l) == 0 {
		return 0, false
	}
	return l[len(l)-1], true
}

// without tells a list without a slot.
func without(l []int, slot int) []int {
	var rest []int
	for _, s := range l {
		if s != slot {
			rest = append(rest, s)
		}
	}
	return rest
}

// wantLike holds all that a ranking tells against the other rows.
func wantLike(t *testing.T, k *lru.Ranking, o *other) {
	t.Helper()
	wantRows(t, k, o.trial, o.kept)
	if slot, ok := o.victim(); ok {
		wantVictim(t, k, slot)
		return
	}
	wantNoVictim(t, k)
}

// wantSound holds what follows of the promises, without the other rows' help.
func wantSound(t *testing.T, k *lru.Ranking, slots int) {
	t.Helper()
	trial, kept := k.Trial(), k.Kept()
	times := make([]int, slots)
	for _, slot := range append(slices.Clone(trial), kept...) {
		if slot < 0 || slot >= slots || times[slot] > 0 {
			t.Fatalf("%d of %d: Trial %v, Kept %v", slot, slots, trial, kept)
		}
		times[slot]++
	}
	if len(kept) > slots/2 {
		t.Fatalf("%d of %d are kept", len(kept), slots)
	}
}

// wantSafe holds that who was touched last is no victim, where another one is
// there, and there is room for a kept one.
func wantSafe(t *testing.T, k *lru.Ranking, slots, touched int) {
	t.Helper()
	many := len(k.Trial()) + len(k.Kept())
	got, ok := k.Victim()
	if !ok || got == touched && many > 1 && slots > 1 {
		t.Fatalf("Victim() = %d, %v, touched %d of %d", got, ok, touched, many)
	}
}

// call does a call on both, and holds the answers.
func call(t *testing.T, k *lru.Ranking, o *other, what, slot int) {
	t.Helper()
	switch what {
	case 0:
		wantInsert(t, k, slot, o.insert(slot))
	case 1:
		wantRemove(t, k, slot, o.remove(slot))
	default:
		there := o.touch(slot)
		wantTouch(t, k, slot, there)
		if there {
			wantSafe(t, k, o.slots, slot)
		}
	}
	wantLike(t, k, o)
	wantSound(t, k, o.slots)
}

// arranged tells all orders of all parts of so many slots.
func arranged(slots int) [][]int {
	l := [][]int{nil}
	for at := 0; at < len(l); at++ {
		for slot := range slots {
			if !slices.Contains(l[at], slot) {
				l = append(l, append(slices.Clone(l[at]), slot))
			}
		}
	}
	return l
}

// Each call, behind all rows that few slots may stand in.
func TestEachCallBehindAllRows(t *testing.T) {
	for slots := 1; slots <= 5; slots++ {
		for _, l := range arranged(slots) {
			for many := 0; many <= min(len(l), slots/2); many++ {
				for slot := -1; slot <= slots; slot++ {
					for what := range 3 {
						k := of(t, slots, l[many:], l[:many])
						o := &other{slots, slices.Clone(l[many:]), slices.Clone(l[:many])}
						call(t, k, o, what, slot)
					}
				}
			}
		}
	}
}

// dice tells numbers by a short rule.
type dice uint32

// of tells one of so many numbers.
func (r *dice) of(many int) int {
	*r = *r*1664525 + 1013904223
	return int(*r>>8) % many
}

// Many calls, of which some insert more than they remove, and some less.
func TestAnyCalls(t *testing.T) {
	for slots := 1; slots <= 64; slots++ {
		for seed := range 4 {
			r := dice(slots*4 + seed)
			k, o := newRanking(t, slots), &other{slots: slots}
			for range 400 {
				what := []int{0, 0, 1, 2, 2, 2, 1, 1}[r.of(6+seed%3)]
				slot := r.of(slots)
				if r.of(16) == 0 {
					slot = far[r.of(len(far))]
				}
				call(t, k, o, what, slot)
			}
		}
	}
}

// A ranking as a cache has it: a slot of its victim's is inserted anew. What
// is used again and again is never one.
func TestWhatIsUsedStays(t *testing.T) {
	for slots := 2; slots <= 64; slots++ {
		k := of(t, slots, upTo(slots), nil)
		r := dice(slots)
		for range 300 {
			wantTouch(t, k, 0, true)
			victim, ok := k.Victim()
			if !ok || victim == 0 {
				t.Fatalf("%d slots: Victim() = %d, %v", slots, victim, ok)
			}
			wantRemove(t, k, victim, true)
			wantInsert(t, k, victim, true)
			if slot := r.of(slots); r.of(2) == 0 {
				wantTouch(t, k, slot, true)
			}
		}
	}
}

// R3: what is told shares nothing with what is kept, nor with what is told
// anew.

func TestAnswersAreNotKept(t *testing.T) {
	k := of(t, 8, []int{5, 2, 7}, []int{0, 3})
	for _, row := range []func() []int{k.Trial, k.Kept} {
		first, second := row(), row()
		want := slices.Clone(first)
		for i := range first {
			first[i] = 9
		}
		_ = append(first, 6, 6, 6)
		if !slices.Equal(second, want) {
			t.Fatalf("%v, want %v", second, want)
		}
		wantRows(t, k, []int{5, 2, 7}, []int{0, 3})
	}
	trial, kept := k.Trial(), k.Kept()
	for slot := range 8 {
		k.Remove(slot)
	}
	if !slices.Equal(trial, []int{5, 2, 7}) || !slices.Equal(kept, []int{0, 3}) {
		t.Fatalf("%v, %v", trial, kept)
	}
}

// Rankings know nothing of one another.
func TestRankingsStandAlone(t *testing.T) {
	a, b := of(t, 4, []int{1, 2}, []int{0}), of(t, 4, []int{1, 2}, []int{0})
	c := newRanking(t, 4)
	wantTouch(t, a, 2, true)
	wantRemove(t, a, 0, true)
	wantInsert(t, a, 3, true)
	wantRows(t, a, []int{3, 1}, []int{2})
	wantRows(t, b, []int{1, 2}, []int{0})
	wantRows(t, c, nil, nil)
	wantNoVictim(t, c)
}
