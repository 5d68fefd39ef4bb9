package chain_test

import (
	"math"
	"slices"
	"testing"

	"platelayer/chain"
	"platelayer/head"
)

// most is the greatest Seq, and the greatest Session.
const most = math.MaxUint32

// links are the Kinds that make a link.
var links = []byte{head.Data, head.Trim}

// edges are numbers near the ends of what 32 bits tell, and near what fewer do.
var edges = []uint32{0, 1, 2, 3, 127, 128, 254, 255, 256, 257, 1<<15 - 1, 1 << 15, 1<<16 - 2, 1<<16 - 1, 1 << 16, 1<<16 + 1, 1<<24 - 1, 1 << 24, 1<<31 - 2, 1<<31 - 1, 1 << 31, 1<<31 + 1, most - 3, most - 2, most - 1, most}

// data is a link of the session 1.
func data(seq uint32) head.Head { return head.Head{Kind: head.Data, Session: 1, Seq: seq} }

// row is links of the session 1, by their Seqs.
func row(seqs ...uint32) []head.Head {
	var l []head.Head
	for _, seq := range seqs {
		l = append(l, data(seq))
	}
	return l
}

func wantOf(t *testing.T, session, seq uint32, l []head.Head, want ...int) {
	t.Helper()
	if got := chain.Of(session, seq, l); !slices.Equal(got, want) {
		t.Fatalf("Of(%d, %d, %v) = %v, want %v", session, seq, l, got, want)
	}
}

// words is the chain by the document's words alone.
func words(session, seq uint32, l []head.Head) []int {
	var told []int
	for {
		at := slices.IndexFunc(l, func(h head.Head) bool {
			return (h.Kind == 1 || h.Kind == 2) && h.Session == session && uint64(h.Seq) == uint64(seq)+1
		})
		if at < 0 {
			return told
		}
		told = append(told, at)
		seq = l[at].Seq
	}
}

// told are the heads at places.
func told(l []head.Head, places []int) []head.Head {
	var heads []head.Head
	for _, at := range places {
		heads = append(heads, l[at])
	}
	return heads
}

// without is a list of its own, that one head was left out of.
func without(l []head.Head, at int) []head.Head {
	return slices.Delete(slices.Clone(l), at, at+1)
}

// with is a list of its own, that heads were put into.
func with(l []head.Head, at int, more ...head.Head) []head.Head {
	return slices.Insert(slices.Clone(l), at, more...)
}

// behind are the places of a list, into which some heads more were put at one.
func behind(places []int, at, many int) []int {
	l := slices.Clone(places)
	for i := range l {
		if l[i] >= at {
			l[i] += many
		}
	}
	return l
}

// orders hands out all orders of numbers.
func orders(l []uint32, each func(order []uint32)) {
	var more func(order []uint32)
	more = func(order []uint32) {
		if len(order) == len(l) {
			each(order)
		}
		for _, n := range l {
			if !slices.Contains(order, n) {
				more(append(slices.Clone(order), n))
			}
		}
	}
	more(nil)
}

// dice tells numbers by a short rule.
type dice uint32

// of tells one of so many numbers.
func (r *dice) of(many int) int {
	*r = *r*1664525 + 1013904223
	return int(*r>>8) % many
}

// head tells a head near a session and a Seq: most are links of the session.
func (r *dice) head(session, seq uint32, width int) head.Head {
	h := head.Head{Kind: byte(1 + r.of(2)), Session: session, Id: uint32(r.of(3)), Seq: seq + uint32(r.of(width))}
	switch r.of(8) {
	case 0:
		h.Kind = []byte{0, 3, 4, 5, 6, 129, 130, 255}[r.of(8)]
	case 1:
		h.Session += uint32(1 + r.of(2))
	case 2:
		h.Seq = edges[r.of(len(edges))]
	}
	return h
}

// lists hands out any lists, with a session and a Seq to start behind, that is
// at times one of the edges.
func lists(each func(session, seq uint32, l []head.Head)) {
	r := dice(14)
	for round := range 6000 {
		session, seq := uint32(r.of(3)), uint32(r.of(9))
		if r.of(3) == 0 {
			session, seq = edges[r.of(len(edges))], edges[r.of(len(edges))]
		}
		l := make([]head.Head, r.of(round%40+1))
		for i := range l {
			l[i] = r.head(session, seq, len(l)/2+2)
		}
		each(session, seq, l)
	}
}

// P14.1

// The chapter's example, and what it is behind others.
func TestExample(t *testing.T) {
	l := row(7, 6, 9, 5)
	wantOf(t, 1, 4, l, 3, 1, 0)
	wantOf(t, 1, 5, l, 1, 0)
	wantOf(t, 1, 6, l, 0)
	wantOf(t, 1, 8, l, 2)
	for _, seq := range []uint32{0, 1, 2, 3, 7, 9, 10, most} {
		wantOf(t, 1, seq, l)
	}
	wantOf(t, 0, 4, l)
	wantOf(t, 2, 4, l)
}

// None and an empty list are one; so is a list with room for more.
func TestNoHeads(t *testing.T) {
	for _, session := range edges {
		for _, seq := range edges {
			wantOf(t, session, seq, nil)
			wantOf(t, session, seq, []head.Head{})
			wantOf(t, session, seq, make([]head.Head, 0, 9))
			wantOf(t, session, seq, []head.Head{{Kind: head.Data, Session: session, Seq: seq + 1}}[:0])
		}
	}
}

// One head, of each Kind that a byte tells.
func TestOneHead(t *testing.T) {
	for kind := range 256 {
		h := head.Head{Kind: byte(kind), Session: 1, Seq: 5}
		if kind == head.Data || kind == head.Trim {
			wantOf(t, 1, 4, []head.Head{h}, 0)
		} else {
			wantOf(t, 1, 4, []head.Head{h})
		}
	}
}

// One head, whose Seq is near the one to start behind, or far off: it is a link
// of the chain if it is 1 more, and for no other reason.
func TestOneHeadOfEachSeq(t *testing.T) {
	for _, kind := range links {
		for _, from := range edges {
			for _, seq := range edges {
				l := []head.Head{{Kind: kind, Session: 1, Seq: seq}}
				if from != most && seq == from+1 {
					wantOf(t, 1, from, l, 0)
				} else {
					wantOf(t, 1, from, l)
				}
			}
		}
	}
}

// One head, whose Session is the one that is asked for, or near it, or as it in
// some of its bits.
func TestOneHeadOfEachSession(t *testing.T) {
	for _, kind := range links {
		for _, session := range edges {
			for _, other := range edges {
				l := []head.Head{{Kind: kind, Session: other, Seq: 5}}
				if session == other {
					wantOf(t, session, 4, l, 0)
				} else {
					wantOf(t, session, 4, l)
				}
			}
		}
	}
}

// Heads of which none is a link, for one reason at a time: alone, many of them,
// and ahead of the link that they aren't.
func TestNoLinks(t *testing.T) {
	var none []head.Head
	for _, session := range []uint32{0, 2, 1 + 1<<8, 1 + 1<<16, 1 + 1<<31, most} {
		none = append(none, head.Head{Kind: head.Data, Session: session, Seq: 5}, head.Head{Kind: head.Trim, Session: session, Seq: 5})
	}
	for _, kind := range []byte{head.Map, head.Moved, head.Check, 0, 6, 7, 127, 128, 129, 130, 254, 255} {
		none = append(none, head.Head{Kind: kind, Session: 1, Seq: 5})
	}
	for _, seq := range []uint32{0, 3, 4, 6, 7, 5 + 1<<8, 5 + 1<<16, 5 + 1<<31, most} {
		none = append(none, head.Head{Kind: head.Data, Session: 1, Seq: seq}, head.Head{Kind: head.Trim, Session: 1, Seq: seq})
	}
	for _, h := range none {
		wantOf(t, 1, 4, []head.Head{h})
		wantOf(t, 1, 4, slices.Repeat([]head.Head{h}, 50))
		if h.Seq != 6 {
			wantOf(t, 1, 4, []head.Head{h, data(5), h}, 1)
		}
	}
	wantOf(t, 1, 4, none)
	wantOf(t, 1, 4, append(none, data(5))[:len(none)])
	wantOf(t, 1, 5, none, slices.IndexFunc(none, func(h head.Head) bool { return h.Seq == 6 }), slices.IndexFunc(none, func(h head.Head) bool { return h.Seq == 7 }))
}

// Chains of Data, of Trim, and of both in all ways.
func TestKinds(t *testing.T) {
	for way := range 1 << 6 {
		var l []head.Head
		for i := range 6 {
			l = append(l, head.Head{Kind: links[way>>i&1], Session: 9, Seq: uint32(1 + i)})
		}
		wantOf(t, 9, 0, l, 0, 1, 2, 3, 4, 5)
		wantOf(t, 9, 3, l, 3, 4, 5)
		slices.Reverse(l)
		wantOf(t, 9, 0, l, 5, 4, 3, 2, 1, 0)
		wantOf(t, 8, 0, l)
	}
}

// All orders of a chain: forwards, backwards and mixed.
func TestAllOrders(t *testing.T) {
	for _, from := range []uint32{0, 4, 1<<16 - 3, 1<<31 - 3, most - 6} {
		orders([]uint32{1, 2, 3, 4, 5, 6}, func(order []uint32) {
			var l []head.Head
			var want []int
			for _, n := range order {
				l = append(l, data(from+n))
			}
			for n := range uint32(6) {
				want = append(want, slices.Index(order, n+1))
			}
			for n := range uint32(7) {
				wantOf(t, 1, from+n, l, want[n:]...)
			}
		})
	}
}

// Of heads of one Seq the first in the list counts, whatever Kind it has,
// wherever the others stand.
func TestHeadsOfOneSeq(t *testing.T) {
	wantOf(t, 1, 4, row(5, 5), 0)
	wantOf(t, 1, 4, row(5, 5, 5, 6, 6), 0, 3)
	wantOf(t, 1, 4, row(6, 6, 5, 6, 5), 2, 0)
	wantOf(t, 1, 4, row(6, 5, 7, 6, 5, 7, 7), 1, 0, 2)
	wantOf(t, 1, 4, row(7, 7, 6, 6, 5, 5), 4, 2, 0)
	wantOf(t, 1, 4, slices.Repeat(row(6, 5), 40), 1, 0)
	for _, first := range links {
		for _, second := range links {
			l := []head.Head{{Kind: first, Session: 1, Id: 8, Seq: 5}, {Kind: second, Session: 1, Id: 7, Seq: 5}, data(6)}
			wantOf(t, 1, 4, l, 0, 2)
			slices.Reverse(l)
			wantOf(t, 1, 4, l, 1, 0)
		}
	}
	l := []head.Head{{Kind: head.Map, Session: 1, Seq: 5}, {Kind: head.Data, Session: 2, Seq: 5}, data(5), data(5)}
	wantOf(t, 1, 4, l, 2)
	wantOf(t, 2, 4, l, 1)
}

// Where a Seq is missing the chain ends, though later ones are there.
func TestMissing(t *testing.T) {
	wantOf(t, 1, 4, row(6, 7, 8))
	wantOf(t, 1, 4, row(5, 7, 8), 0)
	wantOf(t, 1, 4, row(8, 5, 9, 6), 1, 3)
	wantOf(t, 1, 4, row(4, 3, 2, 1, 0))
	for miss := range 12 {
		var l []head.Head
		var want []int
		for i := range 12 {
			switch {
			case i < miss:
				want = append(want, i)
				l = append(l, data(uint32(5+i)))
			case i == miss:
				l = append(l, head.Head{Kind: head.Check, Session: 1, Seq: uint32(5 + i)})
			default:
				l = append(l, data(uint32(5+i)))
			}
		}
		wantOf(t, 1, 4, l, want...)
		wantOf(t, 1, 4, without(l, miss), want...)
	}
}

// The least Seqs: 0 is behind none.
func TestLeastSeqs(t *testing.T) {
	wantOf(t, 1, 0, row(0))
	wantOf(t, 1, 0, row(0, 1), 1)
	wantOf(t, 1, 0, row(2, 1, 0), 1, 0)
	wantOf(t, 1, 0, row(2, 0))
	wantOf(t, 1, 1, row(0, 1, 2), 2)
	for _, seq := range edges {
		wantOf(t, 1, seq, row(0, 0, 0))
	}
}

// The greatest Seqs: none is behind 2^32 - 1, and 0 isn't.
func TestGreatestSeqs(t *testing.T) {
	wantOf(t, 1, most, row(0))
	wantOf(t, 1, most, row(0, 1, 2, most, most-1))
	wantOf(t, 1, most-1, row(most), 0)
	wantOf(t, 1, most-1, row(0, most, 1), 1)
	wantOf(t, 1, most-2, row(0, most, 1, most-1), 3, 1)
	wantOf(t, 1, most-3, row(most-2, most-1, most, 0, 1, 2), 0, 1, 2)
	wantOf(t, 1, most-3, row(most-2, most, 0, 1), 0)
	wantOf(t, 1, most-3, row(most, most-1, 2, 1, 0))
	wantOf(t, 1, 0, row(most, 0, 1), 2)
	l := []head.Head{{Kind: head.Trim, Session: most, Seq: 0}, {Kind: head.Trim, Session: most, Seq: most}}
	wantOf(t, most, most-1, l, 1)
	wantOf(t, most, most, l)
	wantOf(t, 0, most-1, l)
}

// Sessions beside one another in one list: each has its own chain.
func TestSessions(t *testing.T) {
	sessions := []uint32{0, 1, 2, 1 << 8, 1 << 16, 1 << 31, most - 1, most}
	var l []head.Head
	for seq := range uint32(5) {
		for i, session := range sessions {
			l = append(l, head.Head{Kind: links[i%2], Session: session, Seq: 7 - seq})
		}
	}
	for i, session := range sessions {
		many := len(sessions)
		wantOf(t, session, 2, l, 4*many+i, 3*many+i, 2*many+i, many+i, i)
		wantOf(t, session, 5, l, many+i, i)
		wantOf(t, session, 7, l)
	}
	wantOf(t, 3, 2, l)
	wantOf(t, most-2, 2, l)
}

// An Id makes no difference.
func TestIds(t *testing.T) {
	for _, id := range edges {
		l := []head.Head{
			{Kind: head.Trim, Session: 1, Id: id, Seq: 6},
			{Kind: head.Data, Session: 1, Id: id, Seq: 5},
			{Kind: head.Data, Session: 1, Id: 5, Seq: id},
			{Kind: head.Data, Session: 1, Id: ^id, Seq: 5},
		}
		if id != 5 && id != 6 && id != 7 {
			wantOf(t, 1, 4, l, 1, 0)
		}
		wantOf(t, 1, 4, slices.Concat(l[:2], l[3:]), 1, 0)
	}
}

// Long lists: forwards, backwards, mixed, of one Seq alone, and without links.
// If each link took a way through the list, these would take too many steps.
func TestLongLists(t *testing.T) {
	const many, from = 200_003, 1<<32 - 1 - 200_003
	forwards, want := make([]head.Head, many), make([]int, many)
	mixed, mixedWant := make([]head.Head, many), make([]int, many)
	for i := range many {
		forwards[i], want[i] = data(from+1+uint32(i)), i
		at := i * 7919 % many
		mixed[at], mixedWant[i] = data(from+1+uint32(i)), at
	}
	same := func(l []head.Head, seq uint32, want []int) {
		t.Helper()
		if got := chain.Of(1, seq, l); !slices.Equal(got, want) {
			t.Fatalf("a chain of %d, want one of %d", len(got), len(want))
		}
	}
	same(forwards, from, want)
	same(forwards, from+many-2, want[many-2:])
	same(forwards, from-1, nil)
	same(mixed, from, mixedWant)
	same(mixed, from+many/2, mixedWant[many/2:])
	same(slices.Concat(forwards, mixed), from, want)
	slices.Reverse(forwards)
	slices.Reverse(want)
	same(forwards, from, want)
	same(slices.Repeat(row(5), many), 4, []int{0})
	same(slices.Repeat(row(5), many), 3, nil)
	same(make([]head.Head, many), most, nil)
}

// All lists of up to five heads of a few, behind each Seq that they are near.
func TestAllFewHeads(t *testing.T) {
	few := []head.Head{data(0), data(1), data(2), {Kind: head.Trim, Session: 1, Id: 3, Seq: 1}, {Kind: head.Trim, Session: 1, Seq: 3}, {Kind: head.Moved, Session: 1, Seq: 1}, {Kind: head.Data, Session: 2, Seq: 2}, data(most)}
	lots := 1
	for long := range 6 {
		for lot := range lots {
			l := make([]head.Head, long)
			for i := range l {
				l[i] = few[lot%len(few)]
				lot /= len(few)
			}
			for _, seq := range []uint32{0, 1, most - 1, most} {
				wantOf(t, 1, seq, l, words(1, seq, l)...)
			}
		}
		lots *= len(few)
	}
}

// Any lists, of any sessions, behind any Seq.
func TestAnyLists(t *testing.T) {
	long := 0
	lists(func(session, seq uint32, l []head.Head) {
		want := words(session, seq, l)
		long = max(long, len(want))
		wantOf(t, session, seq, l, want...)
		for _, other := range []uint32{session + 1, session + 2, session - 1} {
			wantOf(t, other, seq, l, words(other, seq, l)...)
		}
		for _, other := range []uint32{seq + 1, seq - 1, seq + 3} {
			wantOf(t, session, other, l, words(session, other, l)...)
		}
	})
	if long < 8 {
		t.Fatalf("the longest chain has %d links", long)
	}
}

// P14.2

// The chain of more heads begins with that of the heads ahead.
func TestMoreHeads(t *testing.T) {
	lists(func(session, seq uint32, l []head.Head) {
		all := chain.Of(session, seq, l)
		for many := range l {
			fewer := chain.Of(session, seq, l[:many])
			if len(fewer) > len(all) || !slices.Equal(fewer, all[:len(fewer)]) {
				t.Fatalf("%v of %d, then %v of %v", fewer, many, all, l)
			}
		}
	})
}

// A chain goes on where the Seq that was missing joins.
func TestTheMissingJoins(t *testing.T) {
	l := row(8, 5, 6)
	wantOf(t, 1, 4, l, 1, 2)
	wantOf(t, 1, 4, append(l, head.Head{Kind: head.Moved, Session: 1, Seq: 7}), 1, 2)
	wantOf(t, 1, 4, append(l, data(5), data(6), data(8)), 1, 2)
	wantOf(t, 1, 4, append(l, data(7)), 1, 2, 3, 0)
	wantOf(t, 1, 4, append(l, head.Head{Kind: head.Trim, Session: 1, Seq: 7}, data(7), data(9)), 1, 2, 3, 0, 5)
}

// A head that is left out ends the chain there, if no other has its Seq;
// otherwise the other one counts.
func TestLeftOut(t *testing.T) {
	l := row(7, 5, 8, 6)
	wantOf(t, 1, 4, l, 1, 3, 0, 2)
	wantOf(t, 1, 4, without(l, 1))
	wantOf(t, 1, 4, without(l, 3), 1)
	wantOf(t, 1, 4, without(l, 0), 0, 2)
	wantOf(t, 1, 4, without(l, 2), 1, 2, 0)
	l = append(l, data(6), data(6))
	wantOf(t, 1, 4, l, 1, 3, 0, 2)
	wantOf(t, 1, 4, without(l, 3), 1, 3, 0, 2)
	wantOf(t, 1, 4, without(without(l, 3), 3), 1, 3, 0, 2)
	wantOf(t, 1, 4, without(without(without(l, 3), 3), 3), 1)
	wantOf(t, 1, 4, without(l, 5), 1, 3, 0, 2)
}

// Of any chain each link is left out: if another head has its Seq, the chain has
// one of the same Seq there, and ends there otherwise.
func TestEachLeftOut(t *testing.T) {
	ended, went := 0, 0
	lists(func(session, seq uint32, l []head.Head) {
		all := chain.Of(session, seq, l)
		for n, at := range all {
			rest := without(l, at)
			got := told(rest, chain.Of(session, seq, rest))
			if !slices.Equal(got[:min(n, len(got))], told(l, all[:n])) {
				t.Fatalf("%v without %d: %v", l, at, got)
			}
			other := slices.ContainsFunc(rest, func(h head.Head) bool {
				return slices.Contains(links, h.Kind) && h.Session == session && h.Seq == l[at].Seq
			})
			if other {
				went++
				if len(got) != len(all) || got[n].Seq != l[at].Seq || !slices.Equal(got[n+1:], told(l, all[n+1:])) {
					t.Fatalf("%v without %d: %v", l, at, got)
				}
			} else {
				ended++
				if len(got) != n {
					t.Fatalf("%v without %d: %v", l, at, got)
				}
			}
		}
	})
	if ended < 1000 || went < 1000 {
		t.Fatalf("%d ended, %d went on", ended, went)
	}
}

// A head of the chain's Seq, but of no link, doesn't count where the link is
// left out.
func TestLeftOutBesideNoLink(t *testing.T) {
	for _, h := range []head.Head{{Kind: head.Map, Session: 1, Seq: 6}, {Kind: head.Moved, Session: 1, Seq: 6}, {Kind: head.Check, Session: 1, Seq: 6}, {Kind: 0, Session: 1, Seq: 6}, {Kind: 6, Session: 1, Seq: 6}, {Kind: head.Data, Session: 2, Seq: 6}, {Kind: head.Trim, Session: 0, Seq: 6}} {
		l := []head.Head{h, data(5), data(6), h, data(7), h}
		wantOf(t, 1, 4, l, 1, 2, 4)
		wantOf(t, 1, 4, without(l, 2), 1)
	}
}

// What is no link of the session changes nothing, wherever it is put; places
// behind it are those of the same heads.
func TestNoLinksBetween(t *testing.T) {
	l := row(7, 5, 9, 6, 6, 8)
	want := []int{1, 3, 0, 5, 2}
	wantOf(t, 1, 4, l, want...)
	var none []head.Head
	for kind := range 256 {
		for seq := uint32(4); seq <= 10; seq++ {
			h := head.Head{Kind: byte(kind), Session: 1, Id: 1, Seq: seq}
			if slices.Contains(links, h.Kind) {
				h.Session = []uint32{0, 2, most}[seq%3]
			}
			none = append(none, h)
		}
	}
	for at := range len(l) + 1 {
		for _, h := range none {
			wantOf(t, 1, 4, with(l, at, h), behind(want, at, 1)...)
		}
		wantOf(t, 1, 4, with(l, at, none...), behind(want, at, len(none))...)
	}
}

// So it is in any lists.
func TestNoLinksBetweenAny(t *testing.T) {
	r := dice(3)
	lists(func(session, seq uint32, l []head.Head) {
		want := chain.Of(session, seq, l)
		none := head.Head{Kind: links[r.of(2)], Session: session ^ 1<<r.of(32), Seq: seq + uint32(r.of(9))}
		if r.of(2) == 0 {
			none.Kind, none.Session = byte(3+r.of(254)), session
		}
		at := r.of(len(l) + 1)
		wantOf(t, session, seq, with(l, at, none), behind(want, at, 1)...)
		at = r.of(len(l) + 1)
		wantOf(t, session, seq, with(l, at, none, none), behind(want, at, 2)...)
	})
}

// R3: the list stays as it is, and an answer shares nothing with it, nor with
// another one.

func TestListsStay(t *testing.T) {
	lists(func(session, seq uint32, l []head.Head) {
		kept := append(slices.Clone(l), data(seq+1), head.Head{Kind: head.Trim, Session: session, Seq: seq + 1})
		was := slices.Clone(kept)
		wantOf(t, session, seq, kept[:len(l)], words(session, seq, l)...)
		if !slices.Equal(kept, was) {
			t.Fatalf("%v, was %v", kept, was)
		}
	})
}

func TestAnswersStay(t *testing.T) {
	l := row(7, 6, 9, 5)
	first, second := chain.Of(1, 4, l), chain.Of(1, 4, l)
	want := []int{3, 1, 0}
	holds := func() {
		t.Helper()
		if !slices.Equal(second, want) {
			t.Fatalf("%v, want %v", second, want)
		}
	}
	holds()
	for i := range first {
		first[i] = 77
		holds()
	}
	_ = append(first, 78, 79)
	_ = append(first[:0], 80, 81, 82, 83)
	holds()
	wantOf(t, 1, 4, l, want...)
	for i := range l {
		l[i] = head.Head{Kind: head.Data, Session: 1, Seq: 5 + uint32(i)}
		chain.Of(1, 4, l)
		chain.Of(1, uint32(i), l)
		holds()
	}
	clear(l)
	wantOf(t, 1, 4, l)
	holds()
	_ = append(second, 84)
	wantOf(t, 1, 4, row(5, 6, 7, 8), 0, 1, 2, 3)
	holds()
}

// Nothing is kept from call to call: an answer is the same again behind any
// others.
func TestNothingIsKept(t *testing.T) {
	a, b := row(6, 5, 7), []head.Head{{Kind: head.Trim, Session: 2, Seq: 6}, {Kind: head.Trim, Session: 2, Seq: 5}}
	for range 3 {
		wantOf(t, 1, 4, a, 1, 0, 2)
		wantOf(t, 2, 4, b, 1, 0)
		wantOf(t, 1, 4, b)
		wantOf(t, 2, 4, a)
		wantOf(t, 1, 5, a, 0, 2)
		wantOf(t, 1, most, a)
		wantOf(t, 1, 4, nil)
	}
}
