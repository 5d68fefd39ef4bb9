package cache_test

import (
	"math"
	"slices"
	"testing"

	"platelayer/api"
	"platelayer/cache"
	"platelayer/fault"
	"platelayer/geo"
)

// farRooms are numbers of which there is no cache.
var farRooms = []int{math.MinInt, math.MinInt + 1, math.MinInt32, -1 << 32, -1<<32 + 1, -256, -65, -64, -2, -1, 0, 65, 66, 127, 128, 256, 257, 1 << 16, math.MaxInt32, 1 << 32, 1<<32 + 1, math.MaxInt - 1, math.MaxInt}

// farBlocks are numbers that are no blocks: some are as blocks are, but for
// their upper bits, or but for their sign.
var farBlocks = []int{math.MinInt, math.MinInt + 1, math.MinInt + 5, math.MinInt32, -1 << 32, -1<<32 + 1, -1<<32 + 5, -256, -128, -65, -64, -63, -5, -4, -2, -1, 64, 65, 67, 68, 127, 128, 129, 133, 256, 257, 261, 1 << 16, 1<<16 + 5, math.MaxInt32, 1 << 31, math.MaxUint32, 1 << 32, 1<<32 + 1, 1<<32 + 5, 1<<32 + 63, 1 << 40, math.MaxInt - 1, math.MaxInt}

// farTables are numbers that are no map pages of any block.
var farTables = []int{math.MinInt, math.MinInt + 1, math.MinInt32, -1 << 32, -64, -17, -16, -4, -3, -2, -1, 16, 17, 63, 64, 256, 1 << 16, math.MaxInt32, 1 << 32, 1<<32 + 1, math.MaxInt/4 + 1, math.MaxInt - 1, math.MaxInt}

// farAddrs are addresses at the edges of what they may be, and around their
// middle.
var farAddrs = []uint32{0, 1, 2, 1<<8 - 1, 1 << 8, 1<<16 - 1, 1 << 16, 1<<31 - 1, 1 << 31, 1<<31 + 1, math.MaxUint32 - 1, math.MaxUint32}

func newCache(t *testing.T, room int) *cache.Cache {
	t.Helper()
	c, err := cache.New(room)
	if err != nil || c == nil {
		t.Fatalf("New(%d) = %v, %v", room, c, err)
	}
	return c
}

func wantPut(t *testing.T, c *cache.Cache, block int, addr uint32, dirty, want bool) {
	t.Helper()
	if got := c.Put(block, addr, dirty); got != want {
		t.Fatalf("Put(%d, %d, %v) = %v", block, addr, dirty, got)
	}
}

func wantGet(t *testing.T, c *cache.Cache, block int, addr uint32, want bool) {
	t.Helper()
	if got, ok := c.Get(block); got != addr || ok != want {
		t.Fatalf("Get(%d) = %d, %v, want %d, %v", block, got, ok, addr, want)
	}
}

func wantPeek(t *testing.T, c *cache.Cache, block int, addr uint32, want bool) {
	t.Helper()
	if got, ok := c.Peek(block); got != addr || ok != want {
		t.Fatalf("Peek(%d) = %d, %v, want %d, %v", block, got, ok, addr, want)
	}
}

func wantMove(t *testing.T, c *cache.Cache, block int, addr uint32, want bool) {
	t.Helper()
	if got := c.Move(block, addr); got != want {
		t.Fatalf("Move(%d, %d) = %v", block, addr, got)
	}
}

func wantDrop(t *testing.T, c *cache.Cache, block int, want bool) {
	t.Helper()
	if got := c.Drop(block); got != want {
		t.Fatalf("Drop(%d) = %v", block, got)
	}
}

func wantClean(t *testing.T, c *cache.Cache, table, want int) {
	t.Helper()
	if got := c.Clean(table); got != want {
		t.Fatalf("Clean(%d) = %d, want %d", table, got, want)
	}
}

func wantVictim(t *testing.T, c *cache.Cache, want cache.Entry) {
	t.Helper()
	if got, ok := c.Victim(); got != want || !ok {
		t.Fatalf("Victim() = %v, %v, want %v", got, ok, want)
	}
}

func wantNoVictim(t *testing.T, c *cache.Cache) {
	t.Helper()
	if got, ok := c.Victim(); got != (cache.Entry{}) || ok {
		t.Fatalf("Victim() = %v, %v, want none", got, ok)
	}
}

// wantAll holds which entries there are, and how many.
func wantAll(t *testing.T, c *cache.Cache, want ...cache.Entry) {
	t.Helper()
	if got := c.All(); !slices.Equal(got, want) {
		t.Fatalf("All() = %v, want %v", got, want)
	}
	if got := c.Len(); got != len(want) {
		t.Fatalf("Len() = %d, want %d", got, len(want))
	}
}

func wantDirty(t *testing.T, c *cache.Cache, table int, want ...cache.Entry) {
	t.Helper()
	if got := c.Dirty(table); !slices.Equal(got, want) {
		t.Fatalf("Dirty(%d) = %v, want %v", table, got, want)
	}
}

func wantTables(t *testing.T, c *cache.Cache, want ...int) {
	t.Helper()
	if got := c.Tables(); !slices.Equal(got, want) {
		t.Fatalf("Tables() = %v, want %v", got, want)
	}
}

// wantVictims drops who goes first till none is there: these blocks, in this
// order.
func wantVictims(t *testing.T, c *cache.Cache, want ...int) {
	t.Helper()
	for i, block := range want {
		e, ok := c.Victim()
		if !ok || e.Block != block {
			t.Fatalf("victim %d is %v, %v, want of %v", i, e, ok, want)
		}
		wantDrop(t, c, block, true)
	}
	wantNoVictim(t, c)
}

// entry is an entry, written in short.
func entry(block int, addr uint32, dirty bool) cache.Entry {
	return cache.Entry{Block: block, Addr: addr, Dirty: dirty}
}

// other is a cache by the document's words alone: entries in the order in which
// they came, of which each is gone through, and two rows of their blocks, the
// first one first.
type other struct {
	room        int
	entries     []cache.Entry
	trial, kept []int
}

// at tells where a block's entry is, or -1.
func (o *other) at(block int) int {
	return slices.IndexFunc(o.entries, func(e cache.Entry) bool { return e.Block == block })
}

// leave takes a block out of the rows.
func (o *other) leave(block int) {
	gone := func(b int) bool { return b == block }
	o.trial = slices.DeleteFunc(o.trial, gone)
	o.kept = slices.DeleteFunc(o.kept, gone)
}

// use lets a block that stands in a row be used.
func (o *other) use(block int) {
	o.leave(block)
	o.kept = append([]int{block}, o.kept...)
	if len(o.kept) > o.room/2 {
		last := o.kept[len(o.kept)-1]
		o.kept = o.kept[:len(o.kept)-1]
		o.trial = append([]int{last}, o.trial...)
	}
}

func (o *other) peek(block int) (uint32, bool) {
	if at := o.at(block); at >= 0 {
		return o.entries[at].Addr, true
	}
	return 0, false
}

func (o *other) get(block int) (uint32, bool) {
	addr, ok := o.peek(block)
	if ok {
		o.use(block)
	}
	return addr, ok
}

func (o *other) put(block int, addr uint32, dirty bool) bool {
	at := o.at(block)
	switch {
	case block < 0 || block > 63 || at < 0 && len(o.entries) >= o.room:
		return false
	case at < 0:
		o.entries = append(o.entries, entry(block, addr, dirty))
		o.trial = append([]int{block}, o.trial...)
		return true
	}
	if dirty {
		o.entries[at].Dirty = true
	}
	o.entries[at].Addr = addr
	o.use(block)
	return true
}

func (o *other) move(block int, addr uint32) bool {
	at := o.at(block)
	if at >= 0 {
		o.entries[at].Addr = addr
	}
	return at >= 0
}

func (o *other) victim() (cache.Entry, bool) {
	order := append(slices.Clone(o.kept), o.trial...)
	if len(o.trial) == 0 {
		order = o.kept
	}
	if len(order) == 0 {
		return cache.Entry{}, false
	}
	return o.entries[o.at(order[len(order)-1])], true
}

func (o *other) drop(block int) bool {
	at := o.at(block)
	if at < 0 {
		return false
	}
	o.entries = slices.Delete(o.entries, at, at+1)
	o.leave(block)
	return true
}

// all tells the entries by their blocks, looked for one by one.
func (o *other) all() []cache.Entry {
	var l []cache.Entry
	for block := range 64 {
		if at := o.at(block); at >= 0 {
			l = append(l, o.entries[at])
		}
	}
	return l
}

// dirty tells a map page's dirty entries: those of its four blocks.
func (o *other) dirty(table int) []cache.Entry {
	var l []cache.Entry
	for _, e := range o.all() {
		if e.Dirty && table >= 0 && table < 16 && e.Block >= 4*table && e.Block < 4*table+4 {
			l = append(l, e)
		}
	}
	return l
}

func (o *other) tables() []int {
	var l []int
	for table := range 16 {
		if len(o.dirty(table)) > 0 {
			l = append(l, table)
		}
	}
	return l
}

func (o *other) clean(table int) int {
	l := o.dirty(table)
	for _, e := range l {
		o.entries[o.at(e.Block)].Dirty = false
	}
	return len(l)
}

// both is a cache beside the other one. Each call is done on both.
type both struct {
	t *testing.T
	c *cache.Cache
	o *other
}

func newBoth(t *testing.T, room int) both {
	t.Helper()
	return both{t, newCache(t, room), &other{room: room}}
}

func (b both) get(block int) {
	b.t.Helper()
	addr, ok := b.o.get(block)
	wantGet(b.t, b.c, block, addr, ok)
}

func (b both) peek(block int) {
	b.t.Helper()
	addr, ok := b.o.peek(block)
	wantPeek(b.t, b.c, block, addr, ok)
}

func (b both) put(block int, addr uint32, dirty bool) {
	b.t.Helper()
	wantPut(b.t, b.c, block, addr, dirty, b.o.put(block, addr, dirty))
}

func (b both) move(block int, addr uint32) {
	b.t.Helper()
	wantMove(b.t, b.c, block, addr, b.o.move(block, addr))
}

func (b both) drop(block int) {
	b.t.Helper()
	wantDrop(b.t, b.c, block, b.o.drop(block))
}

func (b both) clean(table int) {
	b.t.Helper()
	wantClean(b.t, b.c, table, b.o.clean(table))
}

// victim asks both who goes first.
func (b both) victim() {
	b.t.Helper()
	if e, ok := b.o.victim(); ok {
		wantVictim(b.t, b.c, e)
		return
	}
	wantNoVictim(b.t, b.c)
}

// like holds that both tell the same of all, without a call that changes.
func (b both) like() {
	b.t.Helper()
	wantAll(b.t, b.c, b.o.all()...)
	wantTables(b.t, b.c, b.o.tables()...)
	b.victim()
}

// alike holds that both tell the same of each block and of each map page too.
func (b both) alike() {
	b.t.Helper()
	for block := -2; block < 68; block++ {
		b.peek(block)
	}
	for table := -2; table < 18; table++ {
		wantDirty(b.t, b.c, table, b.o.dirty(table)...)
	}
	b.like()
}

// drain drops who goes first till nothing is left, so that all the order in
// which they would go is told.
func (b both) drain() {
	b.t.Helper()
	for len(b.o.entries) > 0 {
		b.like()
		e, _ := b.o.victim()
		b.drop(e.Block)
	}
	b.like()
}

// P10.1

func TestNew(t *testing.T) {
	for room := -3; room <= 70; room++ {
		if room < 1 || room > 64 {
			wantNoNew(t, room)
			continue
		}
		b := newBoth(t, room)
		b.alike()
		for block := -2; block < 70; block++ {
			b.get(block)
			b.move(block, 9)
			b.drop(block)
		}
		for table := -2; table < 18; table++ {
			b.clean(table)
		}
		b.alike()
	}
	for _, room := range farRooms {
		wantNoNew(t, room)
	}
}

func wantNoNew(t *testing.T, room int) {
	t.Helper()
	c, err := cache.New(room)
	if c != nil || fault.Code(err) != api.ErrArg || !fault.Is(err, api.ErrArg) {
		t.Fatalf("New(%d) = %v, %v", room, c, err)
	}
}

// All is told by blocks, and not as it was put, used, or by addresses.
func TestAllRises(t *testing.T) {
	c := newCache(t, 8)
	wantAll(t, c)
	wantPut(t, c, 40, 1, true, true)
	wantAll(t, c, entry(40, 1, true))
	wantPut(t, c, 63, 7, false, true)
	wantPut(t, c, 0, 9, false, true)
	wantPut(t, c, 9, 3, true, true)
	wantPut(t, c, 10, 5, false, true)
	wantAll(t, c, entry(0, 9, false), entry(9, 3, true), entry(10, 5, false), entry(40, 1, true), entry(63, 7, false))
	wantGet(t, c, 63, 7, true)
	wantGet(t, c, 10, 5, true)
	wantAll(t, c, entry(0, 9, false), entry(9, 3, true), entry(10, 5, false), entry(40, 1, true), entry(63, 7, false))
	wantDrop(t, c, 9, true)
	wantAll(t, c, entry(0, 9, false), entry(10, 5, false), entry(40, 1, true), entry(63, 7, false))
	wantPut(t, c, 8, 2, false, true)
	wantAll(t, c, entry(0, 9, false), entry(8, 2, false), entry(10, 5, false), entry(40, 1, true), entry(63, 7, false))
}

// The chapter's example.
func TestExample(t *testing.T) {
	c := newCache(t, 2)
	wantPut(t, c, 5, 9, true, true)
	wantPut(t, c, 0, 7, false, true)
	wantTables(t, c, 1)
	wantVictim(t, c, entry(5, 9, true))
	wantAll(t, c, entry(0, 7, false), entry(5, 9, true))
}

// P10.2

func TestOrdinary(t *testing.T) {
	c := newCache(t, 4)
	wantPut(t, c, 3, 30, false, true)
	wantPut(t, c, 1, 10, true, true)
	wantPut(t, c, 2, 20, false, true)
	wantGet(t, c, 1, 10, true)
	wantPeek(t, c, 2, 20, true)
	wantGet(t, c, 0, 0, false)
	wantPeek(t, c, 0, 0, false)
	wantMove(t, c, 3, 33, true)
	wantPeek(t, c, 3, 33, true)
	wantDrop(t, c, 2, true)
	wantPeek(t, c, 2, 0, false)
	wantGet(t, c, 2, 0, false)
	wantAll(t, c, entry(1, 10, true), entry(3, 33, false))
	wantPut(t, c, 2, 22, true, true)
	wantAll(t, c, entry(1, 10, true), entry(2, 22, true), entry(3, 33, false))
	wantClean(t, c, 0, 2)
	wantAll(t, c, entry(1, 10, false), entry(2, 22, false), entry(3, 33, false))
}

// Numbers that are no blocks are refused by all calls, and change nothing:
// neither in an empty cache, nor in one with some, nor in a full one.
func TestNoSuchBlock(t *testing.T) {
	for _, room := range []int{1, 2, 4, 63, 64} {
		for _, many := range []int{0, 1, room / 2, room} {
			b := newBoth(t, room)
			for block := range many {
				b.put(block, uint32(block)+7, block%3 == 0)
			}
			b.get(many / 2)
			b.get(0)
			b.alike()
			for _, block := range farBlocks {
				for _, dirty := range []bool{false, true} {
					wantPut(t, b.c, block, 99, dirty, false)
				}
				wantGet(t, b.c, block, 0, false)
				wantPeek(t, b.c, block, 0, false)
				wantMove(t, b.c, block, 99, false)
				wantDrop(t, b.c, block, false)
				b.like()
			}
			b.alike()
			b.drain()
		}
	}
}

// The first and the last block are blocks as all others.
func TestEachBlock(t *testing.T) {
	for _, room := range []int{1, 2, 64} {
		for block := -1; block <= 64; block++ {
			b := newBoth(t, room)
			wantPut(t, b.c, block, 5, block%2 == 0, b.o.put(block, 5, block%2 == 0))
			if has := b.c.Len() == 1; has != (block >= 0 && block <= 63) {
				t.Fatalf("Put(%d): %d entries", block, b.c.Len())
			}
			b.alike()
			b.get(block)
			b.alike()
			b.move(block, 6)
			b.alike()
			b.put(block, 7, false)
			b.alike()
			b.drop(block)
			b.alike()
		}
	}
}

// Each room takes so many entries, and no more: others are refused, and change
// nothing; those that are there may be put anew.
func TestPutTillThereIsNoRoom(t *testing.T) {
	for room := 1; room <= 64; room++ {
		b := newBoth(t, room)
		for n := range 64 {
			block := n * 37 % 64
			b.put(block, uint32(n), n%2 == 0)
			b.like()
			if want := min(n+1, room); b.c.Len() != want {
				t.Fatalf("room %d: %d entries, want %d", room, b.c.Len(), want)
			}
		}
		b.alike()
		for n := range 64 {
			block := n * 37 % 64
			wantPut(t, b.c, block, uint32(n)+100, n%3 == 0, n < room)
			b.o.put(block, uint32(n)+100, n%3 == 0)
			b.like()
		}
		b.alike()
		b.drain()
	}
}

// What is put anew has the new address, is dirty if it is put so or was so, and
// is used.
func TestPutAnew(t *testing.T) {
	for _, c := range []struct{ was, put, is bool }{
		{false, false, false}, {false, true, true}, {true, false, true}, {true, true, true},
	} {
		k := newCache(t, 4)
		wantPut(t, k, 5, 9, c.was, true)
		wantPut(t, k, 6, 8, false, true)
		wantVictim(t, k, entry(5, 9, c.was))
		wantPut(t, k, 5, 11, c.put, true)
		wantAll(t, k, entry(5, 11, c.is), entry(6, 8, false))
		wantVictim(t, k, entry(6, 8, false))
		wantPut(t, k, 5, 12, false, true)
		wantAll(t, k, entry(5, 12, c.is), entry(6, 8, false))
		wantVictims(t, k, 6, 5)
	}
}

// A new entry is inserted, and not touched: of all that are put once, the first
// one goes first, and one that is put anew goes behind all of them.
func TestPutOnceIsOnTrial(t *testing.T) {
	c := newCache(t, 4)
	for block := range 4 {
		wantPut(t, c, block, 1, false, true)
		wantVictim(t, c, entry(0, 1, false))
	}
	wantPut(t, c, 1, 2, false, true)
	wantPut(t, c, 0, 2, false, true)
	wantPut(t, c, 4, 2, false, false)
	wantVictims(t, c, 2, 3, 1, 0)
}

// One that is touched is kept: it goes behind those that came later.
func TestNewEntriesGoAheadOfKeptOnes(t *testing.T) {
	c := newCache(t, 4)
	wantPut(t, c, 0, 1, false, true)
	wantGet(t, c, 0, 1, true)
	wantPut(t, c, 1, 1, false, true)
	wantPut(t, c, 2, 1, false, true)
	wantVictims(t, c, 1, 2, 0)
}

// There is no place of its own for what was put dirty.
func TestDirtyIsNoUse(t *testing.T) {
	c := newCache(t, 6)
	for block := range 6 {
		wantPut(t, c, block, 1, block%2 == 0, true)
	}
	wantClean(t, c, 0, 2)
	wantVictims(t, c, 0, 1, 2, 3, 4, 5)
}

func TestGetUses(t *testing.T) {
	for many := 1; many <= 8; many++ {
		for block := range many {
			b := newBoth(t, 8)
			for n := range many {
				b.put(n, uint32(n)+1, n%2 == 0)
			}
			wantGet(t, b.c, block, uint32(block)+1, true)
			b.o.get(block)
			b.alike()
			victim, _ := b.c.Victim()
			if many > 1 && victim.Block == block || block == 0 && many > 1 && victim.Block != 1 {
				t.Fatalf("victim %v behind Get(%d)", victim, block)
			}
			b.drain()
		}
	}
}

// A Get of what isn't there uses nothing.
func TestGetOfNone(t *testing.T) {
	b := newBoth(t, 4)
	for _, block := range []int{7, 0, 63} {
		b.put(block, 5, false)
	}
	for _, block := range []int{1, 6, 8, 62, 64, -1, 1<<32 + 7, 1 << 32} {
		wantGet(t, b.c, block, 0, false)
		b.alike()
		wantVictim(t, b.c, entry(7, 5, false))
	}
	wantVictims(t, b.c, 7, 0, 63)
}

func TestPeekDoesNotUse(t *testing.T) {
	c := newCache(t, 4)
	for block := range 4 {
		wantPut(t, c, block, uint32(block)+1, block%2 == 0, true)
	}
	wantGet(t, c, 2, 3, true)
	for range 3 {
		for block := range 4 {
			wantPeek(t, c, block, uint32(block)+1, true)
			wantVictim(t, c, entry(0, 1, true))
		}
		wantPeek(t, c, 4, 0, false)
		wantVictim(t, c, entry(0, 1, true))
	}
	wantVictims(t, c, 0, 1, 3, 2)
}

// Move changes an address, and neither what is dirty nor who goes first.
func TestMove(t *testing.T) {
	c := newCache(t, 4)
	wantPut(t, c, 5, 9, true, true)
	wantPut(t, c, 6, 8, false, true)
	wantPut(t, c, 7, 7, false, true)
	wantGet(t, c, 7, 7, true)
	wantMove(t, c, 5, 1, true)
	wantAll(t, c, entry(5, 1, true), entry(6, 8, false), entry(7, 7, false))
	wantVictim(t, c, entry(5, 1, true))
	wantMove(t, c, 6, 2, true)
	wantAll(t, c, entry(5, 1, true), entry(6, 2, false), entry(7, 7, false))
	wantVictim(t, c, entry(5, 1, true))
	wantMove(t, c, 7, 3, true)
	wantAll(t, c, entry(5, 1, true), entry(6, 2, false), entry(7, 3, false))
	wantDirty(t, c, 1, entry(5, 1, true))
	for _, block := range []int{0, 4, 8, 63, 64, -1, 1<<32 + 5} {
		wantMove(t, c, block, 77, false)
		wantAll(t, c, entry(5, 1, true), entry(6, 2, false), entry(7, 3, false))
		wantVictim(t, c, entry(5, 1, true))
	}
	wantVictims(t, c, 5, 6, 7)
}

// What was cleaned stays clean when it moves; what was dropped doesn't move.
func TestMoveBehindCleanAndDrop(t *testing.T) {
	c := newCache(t, 2)
	wantPut(t, c, 5, 9, true, true)
	wantClean(t, c, 1, 1)
	wantMove(t, c, 5, 4, true)
	wantAll(t, c, entry(5, 4, false))
	wantTables(t, c)
	wantDrop(t, c, 5, true)
	wantMove(t, c, 5, 3, false)
	wantAll(t, c)
	wantPut(t, c, 5, 9, false, true)
	wantAll(t, c, entry(5, 9, false))
}

// An address is any number: one that is 0 is there all the same.
func TestFarAddrs(t *testing.T) {
	for _, addr := range farAddrs {
		for _, dirty := range []bool{false, true} {
			c := newCache(t, 2)
			wantPut(t, c, 0, addr, dirty, true)
			wantPeek(t, c, 0, addr, true)
			wantGet(t, c, 0, addr, true)
			wantVictim(t, c, entry(0, addr, dirty))
			wantAll(t, c, entry(0, addr, dirty))
			wantMove(t, c, 0, ^addr, true)
			wantGet(t, c, 0, ^addr, true)
			wantMove(t, c, 0, addr, true)
			wantPut(t, c, 63, 5, true, true)
			wantMove(t, c, 63, addr, true)
			wantPut(t, c, 0, ^addr, false, true)
			wantPut(t, c, 63, addr, false, true)
			wantAll(t, c, entry(0, ^addr, dirty), entry(63, addr, true))
			wantDirty(t, c, 15, entry(63, addr, true))
		}
	}
}

// P10.3

func TestVictimOfFew(t *testing.T) {
	for _, room := range []int{1, 2, 3, 64} {
		c := newCache(t, room)
		wantNoVictim(t, c)
		for _, block := range []int{0, 5, 63} {
			wantPut(t, c, block, 9, true, true)
			wantVictim(t, c, entry(block, 9, true))
			wantGet(t, c, block, 9, true)
			wantVictim(t, c, entry(block, 9, true))
			wantMove(t, c, block, 8, true)
			wantClean(t, c, block/4, 1)
			wantVictim(t, c, entry(block, 8, false))
			wantDrop(t, c, block, true)
			wantNoVictim(t, c)
		}
	}
}

// Who goes first stays there: it is told, and not taken out.
func TestVictimStays(t *testing.T) {
	c := newCache(t, 3)
	for block := range 3 {
		wantPut(t, c, block, 4, block == 0, true)
	}
	for range 4 {
		wantVictim(t, c, entry(0, 4, true))
		wantAll(t, c, entry(0, 4, true), entry(1, 4, false), entry(2, 4, false))
	}
}

// With room for one there is no row of kept ones.
func TestRoomOfOne(t *testing.T) {
	b := newBoth(t, 1)
	for _, block := range []int{0, 63, 5} {
		b.put(block, 1, false)
		b.alike()
		b.put((block+1)%64, 2, true)
		b.alike()
		b.get(block)
		b.alike()
		b.get(block)
		b.put(block, 3, true)
		b.alike()
		b.drop((block + 1) % 64)
		b.alike()
		b.drop(block)
		b.alike()
	}
}

// Half of the room is kept, rounded down: who was kept last goes back on trial,
// in front, as soon as there is one more.
func TestTouchOfMoreThanAreKept(t *testing.T) {
	c := newCache(t, 5)
	for block := range 5 {
		wantPut(t, c, block, 1, false, true)
	}
	wantGet(t, c, 0, 1, true)
	wantGet(t, c, 1, 1, true)
	wantGet(t, c, 2, 1, true)
	wantVictims(t, c, 3, 4, 0, 1, 2)
}

func TestAllAreUsedInTurn(t *testing.T) {
	for room := 1; room <= 64; room++ {
		b := newBoth(t, room)
		for block := range room {
			b.put(63-block, 1, false)
		}
		for n := range room + 3 {
			b.get(63 - n*5%room)
			b.like()
		}
		b.drain()
	}
}

func TestDrop(t *testing.T) {
	for _, room := range []int{1, 2, 3, 4, 7, 64} {
		for place := range room {
			b := newBoth(t, room)
			for n := range room {
				b.put(n*5%64, uint32(n), n%2 == 0)
			}
			b.get(0)
			block := place * 5 % 64
			wantDrop(t, b.c, block, true)
			b.o.drop(block)
			b.alike()
			wantDrop(t, b.c, block, false)
			b.alike()
			b.get(block)
			b.move(block, 7)
			b.alike()
			wantPut(t, b.c, block, 98, false, true)
			b.o.put(block, 98, false)
			b.alike()
			wantPeek(t, b.c, block, 98, true)
			wantPut(t, b.c, (block+1)%64, 97, true, room == 64)
			b.o.put((block+1)%64, 97, true)
			b.drain()
		}
	}
}

// What was dropped leaves room, and nothing else: neither dirt nor its turn.
func TestDropLeavesRoom(t *testing.T) {
	for _, room := range []int{1, 2, 3, 8} {
		b := newBoth(t, room)
		for n := range 200 {
			block := n * 37 % 64
			b.put(block, uint32(n), n%3 == 0)
			if n >= room {
				wantPeek(t, b.c, block, 0, false)
				wantDrop(t, b.c, (n-room)*37%64, true)
				b.o.drop((n - room) * 37 % 64)
				wantPut(t, b.c, block, uint32(n), false, true)
				b.o.put(block, uint32(n), false)
			}
			b.alike()
		}
	}
	c := newCache(t, 4)
	wantPut(t, c, 5, 9, true, true)
	wantGet(t, c, 5, 9, true)
	wantDrop(t, c, 5, true)
	wantTables(t, c)
	wantPut(t, c, 5, 9, false, true)
	wantPut(t, c, 6, 9, false, true)
	wantTables(t, c)
	wantVictims(t, c, 5, 6)
}

// P10.4

// Each of a map page's four blocks may be dirty, or not: all such are tried,
// with those of the map pages around it dirty, and clean.
func TestEachMapPage(t *testing.T) {
	for table := range 16 {
		for dirt := range 16 {
			for _, around := range []bool{false, true} {
				b := newBoth(t, 64)
				for n := range 64 {
					block := 63 - n
					dirty := around
					if block/4 == table {
						dirty = dirt>>(block%4)&1 == 1
					}
					b.put(block, uint32(block)+100, dirty)
				}
				b.alike()
				b.clean(table)
				wantDirty(t, b.c, table)
				b.alike()
				b.clean(table)
				b.alike()
			}
		}
	}
}

// What is dirty of a map page is told, what isn't isn't, though it is there.
func TestDirty(t *testing.T) {
	c := newCache(t, 64)
	wantPut(t, c, 7, 70, true, true)
	wantPut(t, c, 4, 40, true, true)
	wantPut(t, c, 5, 50, false, true)
	wantPut(t, c, 3, 30, true, true)
	wantPut(t, c, 8, 80, false, true)
	wantPut(t, c, 63, 90, true, true)
	wantDirty(t, c, 0, entry(3, 30, true))
	wantDirty(t, c, 1, entry(4, 40, true), entry(7, 70, true))
	wantDirty(t, c, 2)
	wantDirty(t, c, 15, entry(63, 90, true))
	wantTables(t, c, 0, 1, 15)
	wantClean(t, c, 2, 0)
	wantClean(t, c, 1, 2)
	wantDirty(t, c, 1)
	wantTables(t, c, 0, 15)
	wantAll(t, c, entry(3, 30, true), entry(4, 40, false), entry(5, 50, false), entry(7, 70, false), entry(8, 80, false), entry(63, 90, true))
	wantPut(t, c, 4, 41, false, true)
	wantMove(t, c, 7, 71, true)
	wantTables(t, c, 0, 15)
	wantPut(t, c, 7, 72, true, true)
	wantDirty(t, c, 1, entry(7, 72, true))
	wantTables(t, c, 0, 1, 15)
	wantDrop(t, c, 3, true)
	wantTables(t, c, 1, 15)
	wantClean(t, c, 15, 1)
	wantClean(t, c, 0, 0)
	wantClean(t, c, 1, 1)
	wantTables(t, c)
}

// Numbers that are no map pages have no entries, and clean none, also where all
// are dirty.
func TestNoSuchMapPage(t *testing.T) {
	for _, room := range []int{1, 5, 64} {
		b := newBoth(t, room)
		for block := range room {
			b.put(block, 3, true)
		}
		for _, table := range farTables {
			wantDirty(t, b.c, table)
			wantClean(t, b.c, table, 0)
			b.like()
		}
		b.alike()
		for table := -1; table <= 16; table++ {
			b.clean(table)
			b.alike()
		}
		wantTables(t, b.c)
	}
}

// Clean, Dirty and Tables use nothing, and take nothing out.
func TestCleanUsesNothing(t *testing.T) {
	c := newCache(t, 4)
	for block := range 4 {
		wantPut(t, c, block, 1, true, true)
	}
	wantGet(t, c, 1, 1, true)
	wantDirty(t, c, 0, entry(0, 1, true), entry(1, 1, true), entry(2, 1, true), entry(3, 1, true))
	wantTables(t, c, 0)
	wantClean(t, c, 0, 4)
	wantAll(t, c, entry(0, 1, false), entry(1, 1, false), entry(2, 1, false), entry(3, 1, false))
	wantVictims(t, c, 0, 2, 3, 1)
}

// The entries that Dirty tells are the ones that geo says.
func TestDirtyAsGeoSays(t *testing.T) {
	c := newCache(t, 64)
	for block := range 64 {
		wantPut(t, c, block, 1, true, true)
	}
	for table := range 16 {
		for place, e := range c.Dirty(table) {
			if its, at := geo.Table(e.Block); its != table || at != place {
				t.Fatalf("Dirty(%d): %v", table, e)
			}
		}
		wantClean(t, c, table, 4)
	}
}

// P10.5

// What was put dirty is there, and dirty, whatever is done, till it is cleaned
// or dropped.
func TestDirtyStays(t *testing.T) {
	for _, room := range []int{1, 2, 3, 64} {
		for _, block := range []int{0, 5, 63} {
			r := dice(room + block)
			b := newBoth(t, room)
			b.put(block, 9, true)
			for range 300 {
				other := (block + 1 + r.of(63)) % 64
				switch r.of(7) {
				case 0:
					b.put(other, 5, r.of(2) == 0)
				case 1:
					b.drop(other)
				case 2:
					b.get(other)
				case 3:
					b.put(block, 7, false)
				case 4:
					b.move(block, 6)
				case 5:
					b.get(block)
				case 6:
					if other/4 != block/4 {
						b.clean(other / 4)
					}
				}
				at := slices.IndexFunc(b.c.Dirty(block/4), func(e cache.Entry) bool { return e.Block == block && e.Dirty })
				if at < 0 || !slices.Contains(b.c.Tables(), block/4) || b.c.Len() > room {
					t.Fatalf("room %d: block %d isn't dirty: %v", room, block, b.c.All())
				}
			}
			b.alike()
			b.clean(block / 4)
			b.alike()
			b.drain()
		}
	}
}

// A cache as a store has it: a victim is dropped, and another block put. What
// is used again and again, by Get or by Put, is never one.
func TestWhatIsUsedStays(t *testing.T) {
	for room := 2; room <= 64; room++ {
		c := newCache(t, room)
		r := dice(room)
		wantPut(t, c, 0, 1, false, true)
		for n := range 200 {
			block := 1 + r.of(63)
			if _, ok := c.Peek(block); !ok && c.Len() == room {
				victim, _ := c.Victim()
				wantDrop(t, c, victim.Block, true)
			}
			wantPut(t, c, block, uint32(n), r.of(2) == 0, true)
			if r.of(2) == 0 {
				wantGet(t, c, 0, 1, true)
			} else {
				wantPut(t, c, 0, 1, false, true)
			}
			if victim, ok := c.Victim(); !ok || victim.Block == 0 || c.Len() > room {
				t.Fatalf("room %d: Victim() = %v, %v, of %v", room, victim, ok, c.All())
			}
		}
	}
}

// dice tells numbers by a short rule.
type dice uint32

// of tells one of so many numbers.
func (r *dice) of(many int) int {
	*r = *r*1664525 + 1013904223
	return int(*r>>8) % many
}

// block tells one of so many blocks, or at times a number that is none.
func (r *dice) block(many int) int {
	if r.of(16) == 0 {
		return farBlocks[r.of(len(farBlocks))]
	}
	return r.of(many) * 64 / many
}

// addr tells an address, at times one at the edges.
func (r *dice) addr() uint32 {
	if r.of(4) == 0 {
		return farAddrs[r.of(len(farAddrs))]
	}
	return uint32(r.of(400))
}

// table tells a map page, or at times a number that is none.
func (r *dice) table() int {
	if r.of(8) == 0 {
		return farTables[r.of(len(farTables))]
	}
	return r.of(16)
}

// call does any call on both. The last ones of them drop, so that the fewer are
// drawn from, the more is put.
func (b both) call(r *dice, blocks, what int) {
	b.t.Helper()
	switch what {
	case 0, 1, 2:
		b.put(r.block(blocks), r.addr(), r.of(3) == 0)
	case 3, 4:
		b.get(r.block(blocks))
	case 5:
		b.move(r.block(blocks), r.addr())
	case 6:
		b.clean(r.table())
	case 7:
		b.drop(r.block(blocks))
	default:
		if e, ok := b.o.victim(); ok {
			b.drop(e.Block)
		}
	}
}

// Many calls, of which some put more than they drop, and some less, with more
// blocks than there is room for.
func TestAnyCalls(t *testing.T) {
	for room := 1; room <= 64; room++ {
		for seed := range 3 {
			r := dice(room*4 + seed)
			blocks := min(64, room+1+room*seed/2)
			b := newBoth(t, room)
			for n := range 150 {
				b.call(&r, blocks, r.of(7+seed))
				b.like()
				if n%10 == 0 {
					b.alike()
				}
			}
			b.alike()
			b.drain()
		}
	}
}

// All rows of four calls of a few, on blocks of two map pages, with too little
// room, and with enough.
func TestAllRowsOfFewCalls(t *testing.T) {
	blocks := []int{4, 3, 0}
	for room := 1; room <= 3; room++ {
		for row := range 13 * 13 * 13 * 13 {
			b := newBoth(t, room)
			for i := range 4 {
				what := row % 13
				row /= 13
				if what == 12 {
					b.clean(0)
					continue
				}
				block, addr := blocks[what%3], uint32(i)
				switch what / 3 {
				case 0:
					b.put(block, addr, false)
				case 1:
					b.put(block, addr, true)
				case 2:
					b.get(block)
				case 3:
					b.drop(block)
				}
			}
			b.drain()
		}
	}
}

// R3: what is told shares nothing with what is kept, nor with what is told
// anew.

func TestAnswersAreNotKept(t *testing.T) {
	make3 := func() *cache.Cache {
		c := newCache(t, 8)
		wantPut(t, c, 5, 9, true, true)
		wantPut(t, c, 6, 8, true, true)
		wantPut(t, c, 0, 7, false, true)
		wantPut(t, c, 12, 3, true, true)
		return c
	}
	all := []cache.Entry{entry(0, 7, false), entry(5, 9, true), entry(6, 8, true), entry(12, 3, true)}
	dirty := []cache.Entry{entry(5, 9, true), entry(6, 8, true)}
	c := make3()
	holds := func() {
		t.Helper()
		wantAll(t, c, all...)
		wantDirty(t, c, 1, dirty...)
		wantTables(t, c, 1, 3)
		wantPeek(t, c, 5, 9, true)
		wantVictim(t, c, entry(5, 9, true))
	}
	for _, tell := range []func() []cache.Entry{c.All, func() []cache.Entry { return c.Dirty(1) }} {
		first, second := tell(), tell()
		want := slices.Clone(first)
		for i := range first {
			first[i] = entry(33, 33, false)
		}
		_ = append(first, entry(1, 1, true), entry(2, 2, true))
		if !slices.Equal(second, want) {
			t.Fatalf("%v, want %v", second, want)
		}
		holds()
	}
	first, second := c.Tables(), c.Tables()
	for i := range first {
		first[i] = 9
	}
	_ = append(first, 6, 6, 6)
	if !slices.Equal(second, []int{1, 3}) {
		t.Fatalf("%v", second)
	}
	holds()
}

// An answer stays as it is, whatever call follows it.
func TestAnswersStay(t *testing.T) {
	c := newCache(t, 4)
	wantPut(t, c, 5, 9, true, true)
	wantPut(t, c, 0, 7, false, true)
	wantPut(t, c, 6, 8, true, true)
	wantPut(t, c, 60, 2, true, true)
	all, dirty, tables := c.All(), c.Dirty(1), c.Tables()
	victim, _ := c.Victim()
	holds := func() {
		t.Helper()
		if !slices.Equal(all, []cache.Entry{entry(0, 7, false), entry(5, 9, true), entry(6, 8, true), entry(60, 2, true)}) {
			t.Fatalf("All: %v", all)
		}
		if !slices.Equal(dirty, []cache.Entry{entry(5, 9, true), entry(6, 8, true)}) || !slices.Equal(tables, []int{1, 15}) {
			t.Fatalf("Dirty: %v, Tables: %v", dirty, tables)
		}
		if victim != entry(5, 9, true) {
			t.Fatalf("Victim: %v", victim)
		}
	}
	wantMove(t, c, 5, 1, true)
	holds()
	wantPut(t, c, 0, 2, true, true)
	holds()
	wantClean(t, c, 1, 2)
	wantClean(t, c, 15, 1)
	holds()
	for _, block := range []int{5, 0, 6, 60} {
		wantDrop(t, c, block, true)
		holds()
	}
	for block := range 4 {
		wantPut(t, c, block, 50, true, true)
		c.All()
		c.Dirty(0)
		c.Tables()
		holds()
	}
}

// Caches know nothing of one another.
func TestCachesStandAlone(t *testing.T) {
	a, b, c := newCache(t, 2), newCache(t, 2), newCache(t, 1)
	wantPut(t, a, 1, 10, true, true)
	wantPut(t, b, 1, 20, false, true)
	wantPut(t, b, 2, 21, true, true)
	wantGet(t, b, 1, 20, true)
	wantDrop(t, a, 1, true)
	wantPut(t, a, 3, 13, false, true)
	wantClean(t, a, 0, 0)
	wantAll(t, a, entry(3, 13, false))
	wantAll(t, b, entry(1, 20, false), entry(2, 21, true))
	wantVictim(t, a, entry(3, 13, false))
	wantVictim(t, b, entry(2, 21, true))
	wantAll(t, c)
	wantNoVictim(t, c)
	wantPut(t, c, 3, 1, false, true)
	wantPut(t, c, 4, 1, false, false)
	wantPut(t, a, 4, 1, false, true)
}
