package victim_test

import (
	"math"
	"math/big"
	"slices"
	"testing"

	"platelayer/api"
	"platelayer/victim"
)

// policies are those that are named, and some that are neither: some are as
// Greedy is, but for their upper bits.
var policies = []int{victim.Greedy, victim.Benefit, 2, -1, -2, 3, 256, 1 << 16, 1 << 31, 1 << 32, -1 << 32, math.MaxInt, math.MinInt}

// eldest is the greatest Age that may be.
const eldest = math.MaxUint32

// zone is a zone, written in short.
func zone(id, live int, age uint32) victim.Zone {
	return victim.Zone{Id: id, Valid: live, Age: age}
}

// row is zones with the Ids from 0 on, of an Age of 0.
func row(live ...int) []victim.Zone {
	var l []victim.Zone
	for id, many := range live {
		l = append(l, zone(id, many, 0))
	}
	return l
}

// same is so many zones that are the same, but for their Ids.
func same(many, live int, age uint32) []victim.Zone {
	var l []victim.Zone
	for id := range many {
		l = append(l, zone(id, live, age))
	}
	return l
}

// sameAs holds that a list is as it was.
func sameAs(t *testing.T, l, was []victim.Zone) {
	t.Helper()
	if !slices.Equal(l, was) {
		t.Fatalf("the list is %v behind the call, and was %v", l, was)
	}
}

func wantRight(t *testing.T, pages int, l []victim.Zone, want bool) {
	t.Helper()
	was := slices.Clone(l)
	if got := victim.Right(pages, l); got != want {
		t.Fatalf("Right(%d, %v) = %v", pages, l, got)
	}
	sameAs(t, l, was)
}

func wantOrder(t *testing.T, policy, pages int, l []victim.Zone, want ...int) {
	t.Helper()
	was := slices.Clone(l)
	if got := victim.Order(policy, pages, l); !slices.Equal(got, want) {
		t.Fatalf("Order(%d, %d, %v) = %v, want %v", policy, pages, l, got, want)
	}
	sameAs(t, l, was)
}

func wantChoose(t *testing.T, policy, pages, extra int, l []victim.Zone, want ...int) {
	t.Helper()
	was := slices.Clone(l)
	if got := victim.Choose(policy, pages, extra, l); !slices.Equal(got, want) {
		t.Fatalf("Choose(%d, %d, %d, %v) = %v, want %v", policy, pages, extra, l, got, want)
	}
	sameAs(t, l, was)
}

// benefit is a zone's benefit by the document's words alone.
func benefit(pages int, z victim.Zone) *big.Rat {
	more := new(big.Int).Add(big.NewInt(int64(z.Age)), big.NewInt(1))
	dead := big.NewInt(int64(pages - z.Valid))
	return new(big.Rat).SetFrac(more.Mul(more, dead), big.NewInt(int64(z.Valid+1)))
}

// ahead tells by the document's words alone whether a is ahead of b.
func ahead(policy, pages int, a, b victim.Zone) bool {
	held := b.Valid - a.Valid
	if policy != 0 {
		held = benefit(pages, a).Cmp(benefit(pages, b))
	}
	return held > 0 || held == 0 && a.Id < b.Id
}

// ordered is the order by the document's words alone: as many zones are ahead
// of one as its place tells.
func ordered(policy, pages int, l []victim.Zone) []victim.Zone {
	order := make([]victim.Zone, len(l))
	for _, z := range l {
		at := 0
		for _, other := range l {
			if other.Id != z.Id && ahead(policy, pages, other, z) {
				at++
			}
		}
		order[at] = z
	}
	return order
}

// gains tells by the document's words alone whether a choice gains: pages are
// laid into zones one by one.
func gains(pages, extra int, choice []victim.Zone) bool {
	moved := extra
	for _, z := range choice {
		moved += z.Valid
	}
	need, room := 0, 0
	for range moved {
		if room == 0 {
			need++
			room = pages
		}
		room--
	}
	return need < len(choice) && need <= 3
}

// chosen is the choice by the document's words alone, and whether there is one.
func chosen(policy, pages, extra int, l []victim.Zone) ([]victim.Zone, bool) {
	order := ordered(policy, pages, l)
	for k := 1; k <= len(l); k++ {
		if gains(pages, extra, order[:k]) {
			return order[:k], true
		}
	}
	if policy != 0 {
		return chosen(0, pages, extra, l)
	}
	return nil, false
}

// idsOf are the Ids of zones.
func idsOf(l []victim.Zone) []int {
	var ids []int
	for _, z := range l {
		ids = append(ids, z.Id)
	}
	return ids
}

// alike holds an order, and the choices with such extras, against those of the
// document's words.
func alike(t *testing.T, policy, pages int, l []victim.Zone, extras ...int) {
	t.Helper()
	wantOrder(t, policy, pages, l, idsOf(ordered(policy, pages, l))...)
	for _, extra := range extras {
		choice, _ := chosen(policy, pages, extra, l)
		wantChoose(t, policy, pages, extra, l, idsOf(choice)...)
	}
}

// orders tells all orders in which zones may stand.
func orders(l []victim.Zone) [][]victim.Zone {
	if len(l) == 0 {
		return [][]victim.Zone{nil}
	}
	var all [][]victim.Zone
	for _, less := range orders(l[1:]) {
		for at := range len(l) {
			all = append(all, slices.Insert(slices.Clone(less), at, l[0]))
		}
	}
	return all
}

// dice tells numbers by a short rule.
type dice uint32

// of tells one of so many numbers.
func (r *dice) of(many int) int {
	*r = *r*1664525 + 1013904223
	return int(*r>>8) % many
}

// ids tells so many Ids, of which none stands twice.
func (r *dice) ids(many int) []int {
	var l []int
	for len(l) < many {
		id := r.of(40)
		if r.of(8) == 0 {
			id = math.MaxInt - id
		}
		if !slices.Contains(l, id) {
			l = append(l, id)
		}
	}
	return l
}

// age tells an Age, of which some are at the edges of what it may be.
func (r *dice) age() uint32 {
	switch r.of(4) {
	case 0:
		return uint32(r.of(4))
	case 1:
		return eldest - uint32(r.of(4))
	case 2:
		return 1<<31 - 2 + uint32(r.of(4))
	}
	return uint32(r.of(1<<16)) << r.of(17)
}

// zones tells so many zones that are right, of so many live pages at most.
func (r *dice) zones(most, many int) []victim.Zone {
	var l []victim.Zone
	for _, id := range r.ids(many) {
		l = append(l, zone(id, r.of(most+1), r.age()))
	}
	return l
}

// shuffle lets zones stand in another order.
func (r *dice) shuffle(l []victim.Zone) []victim.Zone {
	l = slices.Clone(l)
	for i := range l {
		j := r.of(i + 1)
		l[i], l[j] = l[j], l[i]
	}
	return l
}

// The chapter's example, and its order.
func TestExample(t *testing.T) {
	for _, l := range orders(row(4, 1, 1, 2)) {
		wantRight(t, 4, l, true)
		for _, policy := range policies {
			wantOrder(t, policy, 4, l, 1, 2, 3, 0)
			wantChoose(t, policy, 4, 2, l, 1, 2)
		}
	}
}

func TestPolicies(t *testing.T) {
	if victim.Greedy != 0 || victim.Benefit != 1 {
		t.Fatalf("%d, %d", victim.Greedy, victim.Benefit)
	}
}

// P12.1

func TestRightOfSoManyZones(t *testing.T) {
	for _, pages := range []int{1, 4, api.MostPages} {
		wantRight(t, pages, nil, true)
		wantRight(t, pages, []victim.Zone{}, true)
		for many := range 24 {
			wantRight(t, pages, same(many+1, pages, 7), true)
			wantRight(t, pages, same(many+1, 0, 0), true)
		}
		for _, many := range []int{25, 26, 48, 255, 256, 257, 280, 1 << 16, 1<<16 + 1} {
			wantRight(t, pages, same(many, 0, 0), false)
			wantRight(t, pages, same(many, 1, eldest), false)
		}
	}
}

// Of zones that are right, but for one, how many live pages that one has tells
// whether all are, wherever it stands.
func TestRightOfLivePages(t *testing.T) {
	for pages := 1; pages <= 16; pages++ {
		for _, many := range []int{1, 2, 5, 24} {
			for at := range many {
				l := same(many, pages/2, 3)
				for live := -2; live <= 18; live++ {
					l[at].Valid = live
					wantRight(t, pages, l, live >= 0 && live <= pages)
				}
				for _, live := range []int{math.MinInt, math.MinInt32, -1 << 32, -1<<32 + 1, -pages, 1 << 16, 1 << 32, 1<<32 + 1, math.MaxInt} {
					l[at].Valid = live
					wantRight(t, pages, l, false)
				}
			}
		}
	}
}

func TestRightOfIds(t *testing.T) {
	for _, id := range []int{0, 1, 23, 24, 25, 64, 1 << 16, math.MaxInt32, 1 << 32, math.MaxInt - 1, math.MaxInt} {
		wantRight(t, 4, []victim.Zone{zone(id, 4, 0)}, true)
		wantRight(t, 1, []victim.Zone{zone(2, 0, 9), zone(id, 1, eldest), zone(3, 1, 9)}, true)
	}
	for _, id := range []int{-1, -2, -24, -1 << 32, math.MinInt32, math.MinInt + 1, math.MinInt} {
		for at := range 24 {
			l := same(24, 2, 0)
			l[at].Id = id
			wantRight(t, 4, l, false)
		}
		wantRight(t, 4, []victim.Zone{zone(id, 4, 0)}, false)
	}
	wantRight(t, 4, []victim.Zone{zone(math.MaxInt, 4, 0), zone(math.MaxInt-1, 4, 0), zone(0, 4, 0), zone(1<<32, 4, 0)}, true)
}

// An Id stands twice, at any two places, whatever else is told of the two.
func TestRightOfAnIdThatStandsTwice(t *testing.T) {
	for _, many := range []int{2, 3, 24} {
		for one := range many {
			for other := range many {
				for _, id := range []int{0, 12, 99, math.MaxInt} {
					l := same(many, 1, 0)
					l[one].Id = id
					l[other] = zone(id, 3, 8)
					twice := one != other
					stands := slices.IndexFunc(l, func(z victim.Zone) bool { return z.Id == id })
					for i, z := range l {
						twice = twice || z.Id == id && i != stands
					}
					wantRight(t, 4, l, !twice)
				}
			}
		}
	}
	wantRight(t, 4, []victim.Zone{zone(5, 1, 0), zone(6, 1, 0), zone(5, 1, 0)}, false)
	wantRight(t, 4, []victim.Zone{zone(5, 1, 0), zone(5, 1, 0)}, false)
	wantRight(t, 4, []victim.Zone{zone(5, 1, 0), zone(5, 2, 9), zone(5, 3, 1)}, false)
}

func TestOrderOfNoneAndOne(t *testing.T) {
	for _, policy := range policies {
		for _, pages := range []int{1, 4, 16} {
			wantOrder(t, policy, pages, nil)
			wantOrder(t, policy, pages, []victim.Zone{})
			wantOrder(t, policy, pages, []victim.Zone{zone(0, 0, 0)}, 0)
			wantOrder(t, policy, pages, []victim.Zone{zone(math.MaxInt, pages, eldest)}, math.MaxInt)
		}
	}
}

// Ages are nothing to Greedy, and to no other policy.
func TestOrderByPolicies(t *testing.T) {
	l := []victim.Zone{zone(3, 2, 90), zone(9, 1, 0), zone(0, 3, eldest), zone(4, 2, 0), zone(7, 0, 0), zone(1, 4, eldest)}
	wantOrder(t, victim.Greedy, 4, l, 7, 9, 3, 4, 0, 1)
	for _, policy := range policies[1:] {
		wantOrder(t, policy, 4, l, 0, 3, 7, 9, 4, 1)
	}
	// Benefits are 4, 3/2, 2/3, 1/4 and 0.
	l = []victim.Zone{zone(4, 4, 0), zone(3, 3, 0), zone(2, 2, 0), zone(1, 1, 0), zone(0, 0, 0)}
	for _, policy := range policies {
		wantOrder(t, policy, 4, l, 0, 1, 2, 3, 4)
	}
	// They are 4, 6, 8 and 8: an Age is worth as much as live pages.
	l = []victim.Zone{zone(0, 0, 0), zone(1, 1, 3), zone(2, 2, 11), zone(3, 3, 31)}
	wantOrder(t, victim.Greedy, 4, l, 0, 1, 2, 3)
	for _, policy := range policies[1:] {
		wantOrder(t, policy, 4, l, 2, 3, 1, 0)
	}
}

// Where two are as good the smaller Id is first, however far Ids are apart.
func TestOrderOfZonesThatAreAsGood(t *testing.T) {
	for _, policy := range policies {
		for _, l := range orders([]victim.Zone{zone(math.MaxInt, 2, 5), zone(0, 2, 5), zone(math.MaxInt-1, 2, 5), zone(1<<32, 2, 5), zone(3, 2, 5)}) {
			wantOrder(t, policy, 4, l, 0, 3, 1<<32, math.MaxInt-1, math.MaxInt)
		}
	}
	// All of these have a benefit of 4, by other parts.
	for _, l := range orders([]victim.Zone{zone(0, 3, 15), zone(1, 0, 0), zone(2, 2, 5), zone(3, 0, 0)}) {
		wantOrder(t, victim.Benefit, 4, l, 0, 1, 2, 3)
		wantOrder(t, victim.Greedy, 4, l, 1, 3, 2, 0)
	}
	// Of zones of which all pages are live no Age makes a benefit.
	for _, l := range orders([]victim.Zone{zone(0, 16, 0), zone(1, 16, eldest), zone(2, 16, 9), zone(3, 15, 0)}) {
		for _, policy := range policies {
			wantOrder(t, policy, 16, l, 3, 0, 1, 2)
		}
	}
}

func TestOrderOfAllLiveAndOfNoneLive(t *testing.T) {
	for _, pages := range []int{1, 4, 16} {
		full, bare := same(24, pages, 0), same(24, 0, 0)
		for i := range full {
			full[i].Age = uint32(i) * 17
			bare[i].Age = uint32(i) * 17
		}
		rising := idsOf(full)
		falling := slices.Clone(rising)
		slices.Reverse(falling)
		for _, policy := range policies {
			wantOrder(t, policy, pages, full, rising...)
		}
		wantOrder(t, victim.Greedy, pages, bare, rising...)
		for _, policy := range policies[1:] {
			wantOrder(t, policy, pages, bare, falling...)
		}
	}
}

// An Age and 1, together, may be more than an Age may be, and then isn't 0.
func TestOrderOfAges(t *testing.T) {
	for _, pages := range []int{1, 2, 15, 16} {
		for _, l := range orders([]victim.Zone{zone(0, 0, 0), zone(1, 0, 1), zone(2, 0, eldest-1), zone(3, 0, eldest), zone(4, pages, eldest)}) {
			for _, policy := range policies[1:] {
				wantOrder(t, policy, pages, l, 3, 2, 1, 0, 4)
			}
			wantOrder(t, victim.Greedy, pages, l, 0, 1, 2, 3, 4)
		}
	}
	// 2^32 times 1 by 16 are 2^28, and so are 2^24 times 16 by 1: an Age that is
	// one more, or one less, tells them apart.
	old := zone(5, 15, eldest)
	for _, policy := range policies[1:] {
		wantOrder(t, policy, 16, []victim.Zone{zone(9, 0, 1<<24-1), old}, 5, 9)
		wantOrder(t, policy, 16, []victim.Zone{zone(1, 0, 1<<24-1), old}, 1, 5)
		wantOrder(t, policy, 16, []victim.Zone{zone(9, 0, 1<<24), old}, 9, 5)
		wantOrder(t, policy, 16, []victim.Zone{zone(1, 0, 1<<24-2), old}, 5, 1)
		wantOrder(t, policy, 16, []victim.Zone{zone(1, 15, eldest-1), old}, 5, 1)
		// The greatest product that there is: 2^32 times 16, times 16.
		wantOrder(t, policy, 16, []victim.Zone{zone(9, 0, eldest), zone(1, 15, 0)}, 9, 1)
		wantOrder(t, policy, 16, []victim.Zone{zone(9, 0, eldest), old}, 9, 5)
	}
}

// Benefits that are nearly the same are told apart: they are neither rounded to
// whole numbers, nor to fractions of fewer bits than they need.
func TestOrderOfBenefitsThatAreNotRounded(t *testing.T) {
	for _, policy := range policies[1:] {
		// 1/4 and 2/3, 2/4 and 2/3, 3/4 and 2/3.
		wantOrder(t, policy, 4, []victim.Zone{zone(0, 3, 0), zone(1, 2, 0)}, 1, 0)
		wantOrder(t, policy, 4, []victim.Zone{zone(0, 3, 1), zone(1, 2, 0)}, 1, 0)
		wantOrder(t, policy, 4, []victim.Zone{zone(1, 3, 2), zone(0, 2, 0)}, 1, 0)
		// 64 times 9 by 8 are 72, and so are 81 times 8 by 9.
		for _, many := range []uint32{1, 2, 3, 1 << 20, 1<<20 + 1, 53000000, 53024287} {
			a, b := 64*many-1, 81*many-1
			wantOrder(t, policy, 16, []victim.Zone{zone(0, 7, a), zone(1, 8, b)}, 0, 1)
			wantOrder(t, policy, 16, []victim.Zone{zone(1, 7, a), zone(0, 8, b)}, 0, 1)
			wantOrder(t, policy, 16, []victim.Zone{zone(0, 7, a), zone(1, 8, b+1)}, 1, 0)
			wantOrder(t, policy, 16, []victim.Zone{zone(1, 7, a), zone(0, 8, b-1)}, 1, 0)
			wantOrder(t, policy, 16, []victim.Zone{zone(1, 7, a+1), zone(0, 8, b)}, 1, 0)
			wantOrder(t, policy, 16, []victim.Zone{zone(0, 7, a-1), zone(1, 8, b)}, 1, 0)
		}
		for live := range 16 {
			for _, age := range []uint32{0, 1, 1 << 24, 1<<24 + 1, 1 << 31, eldest - 2, eldest - 1} {
				wantOrder(t, policy, 16, []victim.Zone{zone(0, live, age), zone(1, live, age+1)}, 1, 0)
			}
		}
	}
}

// P12.2

// A zone that has no live page, and no extra ones, need no zone.
func TestChooseOfOneZone(t *testing.T) {
	for _, policy := range policies {
		for pages := 1; pages <= 16; pages++ {
			for live := range pages + 1 {
				for extra := range 17 {
					l := []victim.Zone{zone(7, live, 3)}
					if live == 0 && extra == 0 {
						wantChoose(t, policy, pages, extra, l, 7)
					} else {
						wantChoose(t, policy, pages, extra, l)
					}
				}
			}
		}
		wantChoose(t, policy, 4, 0, nil)
		wantChoose(t, policy, 4, 0, []victim.Zone{})
		wantChoose(t, policy, 4, 16, nil)
		wantChoose(t, policy, 4, 0, []victim.Zone{zone(3, 1, 0), zone(1, 0, 0), zone(0, 2, 0), zone(2, 0, 0)}, 1)
	}
}

func TestChooseOfExtra(t *testing.T) {
	for _, policy := range policies {
		l := row(1, 1, 1, 1, 1, 1)
		wantChoose(t, policy, 4, 0, l, 0, 1)
		wantChoose(t, policy, 4, 2, l, 0, 1)
		wantChoose(t, policy, 4, 3, l, 0, 1, 2)
		wantChoose(t, policy, 4, 5, l, 0, 1, 2)
		wantChoose(t, policy, 4, 6, l, 0, 1, 2, 3)
		wantChoose(t, policy, 4, 8, l, 0, 1, 2, 3)
		wantChoose(t, policy, 4, 9, l)
		wantChoose(t, policy, 4, 16, l)
		wantChoose(t, policy, 16, 16, l, 0, 1, 2)
		wantChoose(t, policy, 16, 16, row(0, 0, 0, 0), 0, 1)
		wantChoose(t, policy, 15, 16, row(0, 0, 0, 0), 0, 1, 2)
		wantChoose(t, policy, 6, 16, row(0, 0, 0, 0), 0, 1, 2, 3)
		wantChoose(t, policy, 5, 15, row(0, 0, 0, 0, 0), 0, 1, 2, 3)
		wantChoose(t, policy, 5, 16, row(0, 0, 0, 0, 0, 0))
		wantChoose(t, policy, 1, 3, same(24, 0, 0), 0, 1, 2, 3)
		wantChoose(t, policy, 1, 4, same(24, 0, 0))
		wantChoose(t, policy, 1, 16, same(24, 0, 0))
	}
}

// A choice that needs Spare zones gains, and one that needs one more doesn't,
// however many zones it is of.
func TestChooseOfSpareZones(t *testing.T) {
	for _, policy := range policies {
		for _, many := range []int{4, 5, 6, 24} {
			wantChoose(t, policy, 4, 0, same(many, 3, 0), 0, 1, 2, 3)
			wantChoose(t, policy, 4, 1, same(many, 3, 0))
			wantChoose(t, policy, 4, 4, same(many, 2, 0), 0, 1, 2, 3)
			wantChoose(t, policy, 4, 5, same(many, 2, 0))
			wantChoose(t, policy, 16, 0, same(many, 12, 0), 0, 1, 2, 3)
			wantChoose(t, policy, 16, 0, same(many, 13, 0))
			wantChoose(t, policy, 16, 16, same(many, 8, 0), 0, 1, 2, 3)
			wantChoose(t, policy, 15, 16, same(many, 8, 0))
		}
		for _, many := range []int{1, 2, 3} {
			wantChoose(t, policy, 4, 0, same(many, 3, 0))
			wantChoose(t, policy, 4, 4, same(many, 2, 0))
		}
		wantChoose(t, policy, 4, 0, row(2, 2), 0, 1)
		wantChoose(t, policy, 4, 1, row(2, 2))
		wantChoose(t, policy, 4, 0, row(3, 3, 2), 2, 0, 1)
		wantChoose(t, policy, 4, 1, row(3, 3, 2))
		wantChoose(t, policy, 4, 0, same(24, 4, 0))
	}
}

// By Benefit old zones are ahead of such as have fewer live pages: where those
// don't gain, Greedy is asked.
func TestChooseWhereBenefitHasNone(t *testing.T) {
	l := []victim.Zone{zone(0, 3, 900), zone(1, 3, 900), zone(2, 3, 900), zone(3, 3, 900), zone(4, 1, 1), zone(5, 1, 0), zone(6, 0, 0)}
	for _, l := range [][]victim.Zone{l, {l[6], l[3], l[5], l[2], l[4], l[1], l[0]}} {
		wantChoose(t, victim.Greedy, 4, 1, l, 6, 4)
		wantChoose(t, victim.Greedy, 4, 0, l, 6)
		for _, policy := range policies[1:] {
			wantOrder(t, policy, 4, l, 0, 1, 2, 3, 6, 4, 5)
			wantChoose(t, policy, 4, 0, l, 0, 1, 2, 3)
			wantChoose(t, policy, 4, 1, l, 6, 4)
		}
	}
}

// Where Benefit has a choice Greedy isn't asked, though its choice is of fewer
// zones, or frees more.
func TestChooseWhereBothHaveOne(t *testing.T) {
	l := []victim.Zone{zone(0, 2, 99), zone(1, 2, 99), zone(2, 0, 0), zone(3, 1, 0)}
	wantChoose(t, victim.Greedy, 4, 0, l, 2)
	wantChoose(t, victim.Greedy, 4, 3, l, 2, 3)
	for _, policy := range policies[1:] {
		wantChoose(t, policy, 4, 0, l, 0, 1)
		wantChoose(t, policy, 4, 3, l, 0, 1, 2)
		wantChoose(t, policy, 4, 5, l, 0, 1, 2, 3)
		wantChoose(t, policy, 4, 8, l)
	}
}

func TestChooseWhereNeitherHasOne(t *testing.T) {
	for _, policy := range policies {
		wantChoose(t, policy, 4, 0, []victim.Zone{zone(0, 4, 0), zone(1, 4, eldest), zone(2, 4, 7)})
		wantChoose(t, policy, 4, 1, []victim.Zone{zone(0, 3, 900), zone(1, 3, 900), zone(2, 3, 900), zone(3, 3, 900), zone(4, 3, 0)})
		wantChoose(t, policy, 4, 16, same(24, 0, 9))
		wantChoose(t, policy, 4, 13, same(24, 0, eldest))
		wantChoose(t, policy, 4, 3, []victim.Zone{zone(5, 2, 2), zone(3, 3, eldest)})
	}
}

// All lists of up to four zones, of few pages and few Ages.
func TestAllListsOfFewZones(t *testing.T) {
	ages := []uint32{0, 2, eldest}
	for _, pages := range []int{1, 2} {
		kinds := (pages + 1) * len(ages)
		lists := 1
		for many := range 5 {
			for list := range lists {
				var l []victim.Zone
				for id := range many {
					kind := list % kinds
					list /= kinds
					l = append(l, zone(3-id, kind/len(ages), ages[kind%len(ages)]))
				}
				wantRight(t, pages, l, true)
				alike(t, victim.Greedy, pages, l, 0, 1, pages, pages+1, 16)
				alike(t, victim.Benefit, pages, l, 0, 1, pages, pages+1, 16)
			}
			lists *= kinds
		}
	}
}

// Any zones, of which some lists have few live pages, and some have many, of all
// pages and of as many zones as may be.
func TestAnyZones(t *testing.T) {
	for pages := 1; pages <= 16; pages++ {
		for many := range 25 {
			r := dice(pages*100 + many)
			for _, most := range []int{0, pages / 3, pages / 2, 2 * pages / 3, pages} {
				l := r.zones(most, many)
				wantRight(t, pages, l, true)
				alike(t, victim.Greedy, pages, l, 0, 1, r.of(17), pages, 16)
				alike(t, policies[1+r.of(len(policies)-1)], pages, l, 0, 1, r.of(17), pages, 16)
			}
		}
	}
}

// P12.3

// wantGain holds that the zones of such Ids gain.
func wantGain(t *testing.T, pages, extra int, l []victim.Zone, ids []int) {
	t.Helper()
	var choice []victim.Zone
	for _, id := range ids {
		at := slices.IndexFunc(l, func(z victim.Zone) bool { return z.Id == id })
		if at < 0 {
			t.Fatalf("%d of %v is none of %v", id, ids, l)
		}
		choice = append(choice, l[at])
	}
	if len(choice) > 0 && (!victim.Right(pages, choice) || !gains(pages, extra, choice)) {
		t.Fatalf("%v of %v don't gain: pages %d, extra %d", ids, l, pages, extra)
	}
}

// What is chosen gains, whatever was asked, and the first ones of it don't, by
// the policy that chose them.
func TestWhatIsChosenGains(t *testing.T) {
	for seed := range 4000 {
		r := dice(seed)
		pages := 1 + r.of(16)
		l := r.zones(r.of(pages+1), r.of(25))
		extra := r.of(17)
		for _, policy := range []int{victim.Greedy, victim.Benefit} {
			ids := victim.Choose(policy, pages, extra, l)
			wantGain(t, pages, extra, l, ids)
			if !slices.Equal(ids, victim.Order(policy, pages, l)[:len(ids)]) && !slices.Equal(ids, victim.Order(victim.Greedy, pages, l)[:len(ids)]) {
				t.Fatalf("%v aren't the first ones of %v", ids, l)
			}
		}
	}
}

// wantChoice holds that there is a choice with each extra that is no more than
// pages.
func wantChoice(t *testing.T, pages int, l []victim.Zone) {
	t.Helper()
	wantRight(t, pages, l, true)
	for extra := range pages + 1 {
		for _, policy := range []int{victim.Greedy, victim.Benefit} {
			ids := victim.Choose(policy, pages, extra, l)
			if len(ids) == 0 {
				t.Fatalf("none of %v: policy %d, pages %d, extra %d", l, policy, pages, extra)
			}
			wantGain(t, pages, extra, l, ids)
		}
	}
}

// Of four zones, or more, of which just half of the pages are live, there is a
// choice: live pages are laid level, or into the first zones alone, or anyhow.
func TestHalfOfThePagesLive(t *testing.T) {
	for pages := 1; pages <= 16; pages++ {
		for many := 4; many <= 24; many++ {
			r := dice(pages*1000 + many)
			wantChoice(t, pages, same(many, pages/2, 5))
			l := append(same(many/2, pages, eldest), same(many, 0, 0)[many/2:]...)
			wantChoice(t, pages, l)
			for range 10 {
				l := r.zones(0, many)
				for left := many * pages / 2; left > 0; {
					if z := &l[r.of(many)]; z.Valid < pages {
						more := 1 + r.of(min(left, pages-z.Valid))
						z.Valid += more
						left -= more
					}
				}
				wantChoice(t, pages, l)
			}
		}
	}
}

// How zones stand in the list changes nothing.
func TestHowZonesStand(t *testing.T) {
	for _, few := range [][]victim.Zone{
		row(1, 1, 1, 1, 1),
		row(4, 3, 2, 1, 0),
		{zone(8, 2, 3), zone(2, 2, 3), zone(5, 1, 0), zone(0, 4, eldest), zone(math.MaxInt, 0, 0)},
	} {
		for _, policy := range []int{victim.Greedy, victim.Benefit, -1} {
			order, choice := victim.Order(policy, 4, few), victim.Choose(policy, 4, 3, few)
			for _, l := range orders(few) {
				wantOrder(t, policy, 4, l, order...)
				wantChoose(t, policy, 4, 3, l, choice...)
			}
		}
	}
	for seed := range 500 {
		r := dice(seed)
		pages := 1 + r.of(16)
		l := r.zones(r.of(pages+1), r.of(25))
		extra := r.of(17)
		for _, policy := range []int{victim.Greedy, victim.Benefit, 2} {
			order, choice := victim.Order(policy, pages, l), victim.Choose(policy, pages, extra, l)
			for range 4 {
				other := r.shuffle(l)
				wantRight(t, pages, other, true)
				wantOrder(t, policy, pages, other, order...)
				wantChoose(t, policy, pages, extra, other, choice...)
			}
		}
	}
}

// R1: lists that aren't right, pages that no zone has, and extras that none may
// be, end without a panic.
func TestWhateverIsAsked(t *testing.T) {
	far := []int{math.MinInt, math.MinInt + 1, math.MinInt32, -17, -2, -1, 0, 1, 3, 4, 16, 17, 64, math.MaxInt32, 1 << 32, math.MaxInt - 1, math.MaxInt}
	for seed := range 60 {
		r := dice(seed)
		var l []victim.Zone
		for range r.of(300) {
			l = append(l, zone(far[r.of(len(far))], far[r.of(len(far))], r.age()))
		}
		was := slices.Clone(l)
		for _, pages := range far {
			for _, policy := range []int{victim.Greedy, victim.Benefit} {
				victim.Right(pages, l)
				victim.Order(policy, pages, l)
				victim.Choose(policy, pages, far[r.of(len(far))], l)
				sameAs(t, l, was)
			}
		}
	}
}

// R3 and R5: an answer shares nothing with the list that is handed in, nor with
// another answer, and nothing is kept.

func TestAnswersStandAlone(t *testing.T) {
	l := []victim.Zone{zone(0, 2, 1), zone(1, 1, 0), zone(2, 3, 90), zone(3, 1, 0), zone(4, 0, 0)}
	was := slices.Clone(l)
	asks := []func() []int{
		func() []int { return victim.Order(victim.Greedy, 4, l) },
		func() []int { return victim.Order(victim.Benefit, 4, l) },
		func() []int { return victim.Choose(victim.Greedy, 4, 3, l) },
		func() []int { return victim.Choose(victim.Benefit, 4, 1, l) },
		func() []int { return victim.Choose(victim.Benefit, 4, 8, l) },
	}
	wants := [][]int{{4, 1, 3, 0, 2}, {2, 4, 1, 3, 0}, {4, 1}, {2, 4}, {4, 1, 3, 0}}
	for i, ask := range asks {
		first, second := ask(), ask()
		for at := range first {
			first[at] = 77
		}
		_ = append(first, 5, 6)
		_ = append(first[:0], 9, 9)
		for j, other := range asks {
			if got := other(); !slices.Equal(got, wants[j]) {
				t.Fatalf("ask %d behind ask %d: %v, want %v", j, i, got, wants[j])
			}
		}
		if !slices.Equal(second, wants[i]) {
			t.Fatalf("ask %d: %v, want %v", i, second, wants[i])
		}
		sameAs(t, l, was)
	}
	answers := make([][]int, len(asks))
	for i, ask := range asks {
		answers[i] = ask()
	}
	for i := range l {
		l[i] = zone(50+i, 4, 0)
	}
	for i, ask := range asks {
		ask()
		if !slices.Equal(answers[i], wants[i]) {
			t.Fatalf("answer %d is %v, want %v", i, answers[i], wants[i])
		}
	}
}

// What lies behind a list's end isn't touched, nor asked.
func TestPartOfAList(t *testing.T) {
	all := []victim.Zone{zone(9, 0, eldest), zone(2, 2, 0), zone(1, 1, 0), zone(3, 3, 0), zone(8, 0, eldest), zone(2, 0, 0)}
	was := slices.Clone(all)
	wantRight(t, 4, all[1:4], true)
	wantRight(t, 4, all, false)
	for _, policy := range policies {
		wantOrder(t, policy, 4, all[1:4], 1, 2, 3)
		wantChoose(t, policy, 4, 1, all[1:4], 1, 2)
		wantChoose(t, policy, 4, 2, all[1:4], 1, 2, 3)
		wantChoose(t, policy, 4, 3, all[1:4])
		sameAs(t, all, was)
	}
}
