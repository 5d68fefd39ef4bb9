package index_test

import (
	"math"
	"slices"
	"testing"

	"platelayer/api"
	"platelayer/fault"
	"platelayer/index"
)

// farRooms are numbers of which there is no index.
var farRooms = []int{math.MinInt, math.MinInt + 1, math.MinInt32, -1 << 32, -256, -65, -64, -2, -1, 0, 65, 66, 127, 128, 256, 257, 1 << 16, math.MaxInt32, 1 << 32, 1<<32 + 1, math.MaxInt - 1, math.MaxInt}

// farSlots are slots at the edges of what a number may be.
var farSlots = []int{math.MinInt, math.MinInt + 1, math.MinInt32 - 1, math.MinInt32, -1 << 16, -64, -1, 0, 1, 63, 64, 1 << 16, math.MaxInt32, math.MaxInt32 + 1, math.MaxUint32, math.MaxUint32 + 1, math.MaxInt - 1, math.MaxInt}

// farKeys are keys at the edges of what they may be, and around their middle.
var farKeys = []uint32{0, 1, 2, math.MaxUint32, math.MaxUint32 - 1, math.MaxUint32 - 2, 1 << 31, 1<<31 - 1, 1<<31 + 1, 1 << 16, 1<<16 - 1, 1 << 8, 1<<8 - 1}

func newIndex(t *testing.T, room int) *index.Index {
	t.Helper()
	x, err := index.New(room)
	if err != nil || x == nil {
		t.Fatalf("New(%d) = %v, %v", room, x, err)
	}
	return x
}

func wantPut(t *testing.T, x *index.Index, key uint32, slot int, want bool) {
	t.Helper()
	if got := x.Put(key, slot); got != want {
		t.Fatalf("Put(%d, %d) = %v", key, slot, got)
	}
}

func wantGet(t *testing.T, x *index.Index, key uint32, slot int) {
	t.Helper()
	if got, ok := x.Get(key); got != slot || !ok {
		t.Fatalf("Get(%d) = %d, %v, want %d", key, got, ok, slot)
	}
}

func wantNone(t *testing.T, x *index.Index, key uint32) {
	t.Helper()
	if got, ok := x.Get(key); got != 0 || ok {
		t.Fatalf("Get(%d) = %d, %v, want none", key, got, ok)
	}
}

func wantDrop(t *testing.T, x *index.Index, key uint32, want bool) {
	t.Helper()
	if got := x.Drop(key); got != want {
		t.Fatalf("Drop(%d) = %v", key, got)
	}
}

// wantKeys holds which keys there are, and how many.
func wantKeys(t *testing.T, x *index.Index, want ...uint32) {
	t.Helper()
	if got := x.Keys(); !slices.Equal(got, want) {
		t.Fatalf("Keys() = %v, want %v", got, want)
	}
	if got := x.Len(); got != len(want) {
		t.Fatalf("Len() = %d, want %d", got, len(want))
	}
}

// pair is a key with its slot.
type pair struct {
	key  uint32
	slot int
}

// other is an index by the document's words alone: pairs, of which each is
// gone through.
type other struct {
	room  int
	pairs []pair
}

// at tells where a key's pair is, or -1.
func (o *other) at(key uint32) int {
	return slices.IndexFunc(o.pairs, func(p pair) bool { return p.key == key })
}

func (o *other) put(key uint32, slot int) bool {
	if at := o.at(key); at >= 0 {
		o.pairs[at].slot = slot
		return true
	}
	if len(o.pairs) >= o.room {
		return false
	}
	o.pairs = append(o.pairs, pair{key, slot})
	return true
}

func (o *other) drop(key uint32) bool {
	at := o.at(key)
	if at < 0 {
		return false
	}
	o.pairs = slices.Delete(o.pairs, at, at+1)
	return true
}

func (o *other) keys() []uint32 {
	l := make([]uint32, 0, len(o.pairs))
	for _, p := range o.pairs {
		l = append(l, p.key)
	}
	slices.Sort(l)
	return l
}

// both is an index beside the other one. Each call is done on both.
type both struct {
	t *testing.T
	x *index.Index
	o *other
}

func newBoth(t *testing.T, room int) both {
	t.Helper()
	return both{t, newIndex(t, room), &other{room: room}}
}

func (b both) put(key uint32, slot int) {
	b.t.Helper()
	wantPut(b.t, b.x, key, slot, b.o.put(key, slot))
}

func (b both) drop(key uint32) {
	b.t.Helper()
	wantDrop(b.t, b.x, key, b.o.drop(key))
}

// get asks both of one key.
func (b both) get(key uint32) {
	b.t.Helper()
	if at := b.o.at(key); at >= 0 {
		wantGet(b.t, b.x, key, b.o.pairs[at].slot)
		return
	}
	wantNone(b.t, b.x, key)
}

// like holds that both tell the same of these keys, and of all.
func (b both) like(keys []uint32) {
	b.t.Helper()
	for _, key := range keys {
		b.get(key)
	}
	wantKeys(b.t, b.x, b.o.keys()...)
}

// P9.1

func TestNew(t *testing.T) {
	for room := -3; room <= 70; room++ {
		if room < 1 || room > 64 {
			wantNoNew(t, room)
			continue
		}
		x := newIndex(t, room)
		wantKeys(t, x)
		for _, key := range farKeys {
			wantNone(t, x, key)
			wantDrop(t, x, key, false)
		}
		wantKeys(t, x)
	}
	for _, room := range farRooms {
		wantNoNew(t, room)
	}
}

func wantNoNew(t *testing.T, room int) {
	t.Helper()
	x, err := index.New(room)
	if x != nil || fault.Code(err) != api.ErrArg || !fault.Is(err, api.ErrArg) {
		t.Fatalf("New(%d) = %v, %v", room, x, err)
	}
}

// Keys rise as numbers without a sign, and not as they were put.
func TestKeysRise(t *testing.T) {
	x := newIndex(t, 64)
	for _, key := range []uint32{1 << 31, 9, math.MaxUint32, 128, 10, 0, 127, 1<<31 - 1, 256} {
		wantPut(t, x, key, 5, true)
	}
	wantKeys(t, x, 0, 9, 10, 127, 128, 256, 1<<31-1, 1<<31, math.MaxUint32)
	wantDrop(t, x, 127, true)
	wantDrop(t, x, 0, true)
	wantDrop(t, x, math.MaxUint32, true)
	wantKeys(t, x, 9, 10, 128, 256, 1<<31-1, 1<<31)
}

// The chapter's example.
func TestExample(t *testing.T) {
	x := newIndex(t, 1)
	wantPut(t, x, 7, 0, true)
	wantPut(t, x, 8, 1, false)
	wantPut(t, x, 7, 2, true)
	wantGet(t, x, 7, 2)
	wantNone(t, x, 8)
	wantKeys(t, x, 7)
}

// P9.2

func TestOrdinary(t *testing.T) {
	x := newIndex(t, 4)
	wantPut(t, x, 30, 3, true)
	wantPut(t, x, 10, 1, true)
	wantPut(t, x, 20, 2, true)
	wantKeys(t, x, 10, 20, 30)
	wantGet(t, x, 10, 1)
	wantGet(t, x, 20, 2)
	wantGet(t, x, 30, 3)
	wantNone(t, x, 40)
	wantDrop(t, x, 20, true)
	wantNone(t, x, 20)
	wantGet(t, x, 10, 1)
	wantGet(t, x, 30, 3)
	wantKeys(t, x, 10, 30)
	wantPut(t, x, 20, 7, true)
	wantGet(t, x, 20, 7)
	wantKeys(t, x, 10, 20, 30)
}

// Each room takes so many keys, and no more: others are refused, and change
// nothing; those that are there may be put anew.
func TestPutTillThereIsNoRoom(t *testing.T) {
	for room := 1; room <= 64; room++ {
		for _, step := range []uint32{1, 3, 64, 128, 1 << 20, math.MaxUint32} {
			b, keys := newBoth(t, room), []uint32{}
			for n := range uint32(room + 3) {
				keys = append(keys, n*step)
				b.put(n*step, int(n)+5)
				b.like(keys)
			}
			if b.x.Len() != room {
				t.Fatalf("%d keys, room for %d", b.x.Len(), room)
			}
			for i, key := range keys {
				b.put(key, -i)
			}
			b.like(keys)
			b.drop(keys[room/2])
			b.put(keys[room], 77)
			b.put(keys[room+1], 78)
			b.put(keys[room/2], 79)
			b.like(keys)
			wantGet(t, b.x, keys[room], 77)
			wantNone(t, b.x, keys[room+1])
			wantNone(t, b.x, keys[room/2])
		}
	}
}

// A slot is any number, and the key has the one that was put last.
func TestPutAnew(t *testing.T) {
	for _, room := range []int{1, 2, 64} {
		b := newBoth(t, room)
		b.put(7, 1)
		b.put(8, 2)
		for _, slot := range farSlots {
			b.put(7, slot)
			wantGet(t, b.x, 7, slot)
			b.like([]uint32{6, 7, 8})
			b.put(7, slot)
			wantGet(t, b.x, 7, slot)
			b.like([]uint32{6, 7, 8})
		}
	}
}

func TestEachSlotOfANewKey(t *testing.T) {
	for _, slot := range farSlots {
		x := newIndex(t, 1)
		wantPut(t, x, 7, slot, true)
		wantGet(t, x, 7, slot)
		wantPut(t, x, 8, slot, false)
		wantNone(t, x, 8)
		wantGet(t, x, 7, slot)
		wantDrop(t, x, 7, true)
		wantNone(t, x, 7)
		wantPut(t, x, 8, slot, true)
		wantGet(t, x, 8, slot)
		wantKeys(t, x, 8)
	}
}

// A key at the edge of what it may be is a key as all others: also where
// nothing was put yet.
func TestFarKeys(t *testing.T) {
	for many := 1; many <= len(farKeys); many++ {
		b := newBoth(t, many)
		b.like(farKeys)
		for i, key := range farKeys {
			b.drop(key)
			b.put(key, i-3)
			b.like(farKeys)
		}
		for _, key := range farKeys {
			b.drop(key)
			b.like(farKeys)
			b.drop(key)
			b.like(farKeys)
		}
		wantKeys(t, b.x)
	}
}

// A key with the slot 0 is there, though its number is 0 too.
func TestZeroIsThere(t *testing.T) {
	x := newIndex(t, 2)
	wantNone(t, x, 0)
	wantDrop(t, x, 0, false)
	wantPut(t, x, 0, 0, true)
	wantGet(t, x, 0, 0)
	wantKeys(t, x, 0)
	wantDrop(t, x, 0, true)
	wantNone(t, x, 0)
	wantKeys(t, x)
	wantDrop(t, x, 0, false)
	wantKeys(t, x)
}

func TestDrop(t *testing.T) {
	for room := 1; room <= 64; room++ {
		for place := range room {
			b, keys := newBoth(t, room), []uint32{}
			for n := range uint32(room) {
				keys = append(keys, n*7)
				b.put(n*7, int(n)+1)
			}
			b.drop(keys[place] + 1)
			b.like(keys)
			b.drop(keys[place])
			b.like(keys)
			b.drop(keys[place])
			b.like(keys)
			b.put(keys[place], 99)
			b.like(keys)
			wantGet(t, b.x, keys[place], 99)
		}
	}
}

// What was dropped leaves room, and nothing else, however often.
func TestDropLeavesRoom(t *testing.T) {
	for _, room := range []int{1, 2, 3, 63, 64} {
		b := newBoth(t, room)
		for n := range uint32(1000) {
			key := n * 37
			b.put(key, int(n))
			if n >= uint32(room) {
				wantNone(t, b.x, key)
				b.drop(key - uint32(room)*37)
				b.put(key, int(n))
			}
			wantGet(t, b.x, key, int(n))
			b.like([]uint32{key, key + 37, key - uint32(room)*37})
		}
	}
}

// P9.3

// fewSteps are by what keys are far from each other that are laid at one place
// of as many places, or next to it.
var fewSteps = []uint32{64, 65, 127, 128, 129, 131, 256, 1 << 16}

// steps are many of them, for whatever number of places.
func steps() []uint32 {
	l := []uint32{math.MaxUint32, 96, 97, 100, 101, 192, 193, 251, 509, 521}
	for bit := range 27 {
		l = append(l, 1<<bit-1, 1<<bit, 1<<bit+1)
	}
	return l
}

// crowds are keys that are laid at one place by a step, and at those around
// it: in the midst of the array, and around its end.
func crowds(step uint32) [][]uint32 {
	return [][]uint32{
		{0, step, 2 * step, 3 * step, 4 * step},
		{step - 1, 2*step - 1, 3*step - 1, 4*step - 1, 5*step - 1},
		{step - 1, 2*step - 1, step, 0, 1},
		{step - 2, step - 1, 2*step - 2, 0, step},
		{step - 2, 2*step - 2, step - 1, 2*step - 1, 0},
		{step - 1, 0, 1, 2*step - 1, step + 1},
		{5, 6, step + 5, 7, step + 6},
		{9, step + 9, 2*step + 9, 10, 11},
		{step - 3, 2*step - 3, step - 1, 3*step - 3, 1},
	}
}

// once tells a list's numbers, each once.
func once(l []uint32) []uint32 {
	l = slices.Clone(l)
	slices.Sort(l)
	return slices.Compact(l)
}

// orders tells all orders of a list.
func orders(l []uint32) [][]uint32 {
	if len(l) == 0 {
		return [][]uint32{nil}
	}
	var all [][]uint32
	for i, first := range l {
		rest := slices.Delete(slices.Clone(l), i, i+1)
		for _, o := range orders(rest) {
			all = append(all, append([]uint32{first}, o...))
		}
	}
	return all
}

// Keys that are laid at one place, put in all orders: each is dropped, and all
// others are still got.
func TestDropOfEachInAllOrders(t *testing.T) {
	for _, step := range fewSteps {
		for _, keys := range crowds(step) {
			keys = once(keys)
			for _, order := range orders(keys) {
				for _, key := range order {
					b := newBoth(t, len(order))
					for i, k := range order {
						b.put(k, i+1)
					}
					b.drop(key)
					b.like(keys)
					b.drop(key)
					b.put(key, -1)
					b.like(keys)
				}
			}
		}
	}
}

// Keys that are laid at one place, dropped in all orders till none is there.
func TestAllDropsInAllOrders(t *testing.T) {
	for _, step := range fewSteps {
		for _, keys := range crowds(step) {
			l := once(keys)
			for _, order := range orders(l) {
				b := newBoth(t, 64)
				for i, k := range keys {
					b.put(k, i+1)
				}
				for _, key := range order {
					b.drop(key)
					b.like(l)
				}
			}
		}
	}
}

// many tells so many keys that are laid at few places next to each other.
func many(step, first uint32, width, many int) []uint32 {
	var l []uint32
	for n := range uint32(many) {
		l = append(l, first+n%uint32(width)+n/uint32(width)*step)
	}
	return once(l)
}

// As many as there may be stand at one place, or behind it.
func TestManyAtOnePlace(t *testing.T) {
	for _, step := range steps() {
		for _, width := range []int{1, 3} {
			for _, first := range []uint32{0, step / 2, step - 20, step - 1} {
				keys := many(step, first, width, 64)
				r := dice(step + first)
				b := newBoth(t, 64)
				for i, key := range r.order(keys) {
					b.put(key, i)
				}
				b.like(keys)
				for _, key := range r.order(keys)[:len(keys)/2] {
					b.drop(key)
					b.like(keys)
				}
				for i, key := range r.order(keys) {
					b.put(key, -i)
				}
				b.like(keys)
				for _, key := range r.order(keys) {
					b.drop(key)
				}
				b.like(keys)
			}
		}
	}
}

// The order of what was put changes nothing, nor that of what was dropped: all
// that is told is the same, and all that is put behind it.
func TestOrderChangesNothing(t *testing.T) {
	for seed := range 400 {
		r := dice(seed)
		step := []uint32{1, 5, 64, 127, 128, 129, 256}[r.of(7)]
		keys := many(step, uint32(r.of(300)), 1+r.of(4), 64)
		gone := len(keys) / 3
		dropped := r.order(keys)[:gone]
		a, b := newIndex(t, 64), newIndex(t, 64)
		for _, x := range []*index.Index{a, b} {
			for _, key := range r.order(keys) {
				wantPut(t, x, key, int(key)*3, true)
			}
			for _, key := range r.order(dropped) {
				wantDrop(t, x, key, true)
			}
			for key := range uint32(64 - len(keys) + gone) {
				wantPut(t, x, 1<<20+key, int(key), true)
			}
			wantPut(t, x, 1<<21, 1, false)
		}
		wantKeys(t, b, a.Keys()...)
		for _, key := range append(b.Keys(), dropped...) {
			slot, ok := a.Get(key)
			if slot2, ok2 := b.Get(key); slot2 != slot || ok2 != ok {
				t.Fatalf("Get(%d) = %d, %v and %d, %v", key, slot, ok, slot2, ok2)
			}
			if ok == slices.Contains(dropped, key) {
				t.Fatalf("Get(%d) = %d, %v", key, slot, ok)
			}
		}
	}
}

// dice tells numbers by a short rule.
type dice uint32

// of tells one of so many numbers.
func (r *dice) of(many int) int {
	*r = *r*1664525 + 1013904223
	return int(*r>>8) % many
}

// order tells a list in any order.
func (r *dice) order(l []uint32) []uint32 {
	l = slices.Clone(l)
	for i := range l {
		j := i + r.of(len(l)-i)
		l[i], l[j] = l[j], l[i]
	}
	return l
}

// call does any call on both.
func (b both) call(r *dice, keys []uint32, drops int) {
	b.t.Helper()
	key := keys[r.of(len(keys))]
	if r.of(8) < drops {
		b.drop(key)
	} else {
		slot := r.of(1000) - 500
		if r.of(8) == 0 {
			slot = farSlots[r.of(len(farSlots))]
		}
		b.put(key, slot)
	}
	b.like(keys)
}

// Many calls, of which some put more than they drop, and some less, with keys
// that crowd, and more of them than there is room for.
func TestAnyCalls(t *testing.T) {
	for room := 1; room <= 64; room++ {
		for seed, step := range []uint32{1, 63, 64, 65, 127, 128, 129, 256} {
			r := dice(room*16 + seed)
			keys := many(step, step-uint32(1+r.of(3)), 1+r.of(4), room+room/4+1)
			keys = append(keys, farKeys[r.of(len(farKeys))])
			b := newBoth(t, room)
			for n := range 150 {
				b.call(&r, keys, 3+n/50)
			}
		}
	}
}

// All rows of so many calls, each a Put or a Drop of one of few keys that
// crowd around the end of an array.
func TestAllRowsOfFewCalls(t *testing.T) {
	for _, step := range []uint32{64, 128, 256} {
		keys := []uint32{step - 1, 2*step - 1, 0}
		for row := range 6 * 6 * 6 * 6 * 6 * 6 {
			b := newBoth(t, 2+row%2)
			for i, what := range digits(row) {
				if key := keys[what%3]; what < 3 {
					b.put(key, i)
				} else {
					b.drop(key)
				}
			}
			b.like(keys)
		}
	}
}

// digits tells the six digits of a number by six.
func digits(n int) [6]int {
	var l [6]int
	for i := range l {
		l[i] = n % 6
		n /= 6
	}
	return l
}

// R3: what is told shares nothing with what is kept, nor with what is told
// anew.

func TestAnswersAreNotKept(t *testing.T) {
	x := newIndex(t, 8)
	for i, key := range []uint32{5, 2, 133} {
		wantPut(t, x, key, i, true)
	}
	first, second := x.Keys(), x.Keys()
	for i := range first {
		first[i] = 9
	}
	_ = append(first, 6, 6, 6)
	if !slices.Equal(second, []uint32{2, 5, 133}) {
		t.Fatalf("%v", second)
	}
	wantKeys(t, x, 2, 5, 133)
	wantGet(t, x, 5, 0)
	wantGet(t, x, 2, 1)
	wantGet(t, x, 133, 2)
	wantNone(t, x, 9)
	wantNone(t, x, 6)
	wantPut(t, x, 1, 7, true)
	wantDrop(t, x, 5, true)
	wantDrop(t, x, 2, true)
	if !slices.Equal(second, []uint32{2, 5, 133}) {
		t.Fatalf("%v", second)
	}
	wantKeys(t, x, 1, 133)
}

// Asking changes nothing.
func TestAskingChangesNothing(t *testing.T) {
	b := newBoth(t, 6)
	keys := []uint32{127, 255, 0, 128, 383, 1}
	for i, key := range keys {
		b.put(key, i)
		for range 3 {
			b.like(append(slices.Clone(keys), farKeys...))
		}
	}
}

// Indexes know nothing of one another.
func TestIndexesStandAlone(t *testing.T) {
	a, b, c := newIndex(t, 2), newIndex(t, 2), newIndex(t, 1)
	wantPut(t, a, 1, 10, true)
	wantPut(t, b, 1, 20, true)
	wantPut(t, b, 129, 21, true)
	wantDrop(t, a, 1, true)
	wantPut(t, a, 2, 12, true)
	wantKeys(t, a, 2)
	wantKeys(t, b, 1, 129)
	wantGet(t, b, 1, 20)
	wantGet(t, b, 129, 21)
	wantNone(t, b, 2)
	wantKeys(t, c)
	wantPut(t, c, 3, 0, true)
	wantPut(t, c, 4, 0, false)
	wantPut(t, a, 4, 0, true)
}
