package tests

import (
	"fmt"
	"math/rand/v2"
	"testing"

	"loop.example/g03221/impl"
)

// checkNoHeirs: there are zero values for a person who is not there, or for a family or a custom that is not valid.
func checkNoHeirs(t *testing.T, f impl.Family, x impl.Custom, p int, year int, label string) {
	t.Helper()
	expect(t, len(impl.OrderChildren(f, x, p)), 0, "OrderChildren %d: %s", p, label)
	expect(t, len(impl.HeirsBelow(f, x, p, year)), 0, "HeirsBelow %d: %s", p, label)
	expect(t, len(impl.SuccessionOrder(f, x, p, year)), 0, "SuccessionOrder %d: %s", p, label)
	heir, ok := impl.HeirOf(f, x, p, year)
	expect(t, []any{heir, ok}, []any{0, false}, "HeirOf %d: %s", p, label)
	expect(t, len(impl.HoldersOf(f, x, p)), 0, "HoldersOf %d: %s", p, label)
}

func checkNoEstate(t *testing.T, f impl.Family, p int, year int, label string) {
	t.Helper()
	expect(t, len(impl.SharesOf(f, p, year)), 0, "SharesOf %d: %s", p, label)
}

func TestP13HeirsOfFamiliesThatAreNotValid(t *testing.T) {
	for i, f := range notFamilies(t) {
		label := fmt.Sprint("after change ", i)
		for p := range f.People {
			for _, x := range allCustoms() {
				checkNoHeirs(t, f, x, p, 60, label)
			}
			checkNoEstate(t, f, p, 60, label)
		}
	}
}

func TestP13HeirsByCustomsThatAreNotValid(t *testing.T) {
	for _, f := range []impl.Family{parse(t, house), parse(t, dynasty), ladder(10)} {
		for _, x := range notCustoms() {
			for p := range f.People {
				checkNoHeirs(t, f, x, p, 60, fmt.Sprint(x))
			}
		}
	}
}

func TestP13HeirsOfNoSuchPerson(t *testing.T) {
	for _, f := range []impl.Family{parse(t, house), parse(t, dynasty), ladder(10), {}} {
		for _, p := range []int{-1, -2, len(f.People), len(f.People) + 1, 40, 64, lowest, highest} {
			for _, x := range allCustoms() {
				checkNoHeirs(t, f, x, p, 60, "no such person")
			}
			checkNoEstate(t, f, p, 60, "no such person")
		}
	}
}

func familyWithRoom(f impl.Family) string {
	return fmt.Sprint(f.People[:cap(f.People)], f.Unions[:cap(f.Unions)])
}

func TestP13HeirsArgumentsAreKept(t *testing.T) {
	r := newChance(208)
	for _, f := range append(successionFamilies(t, r, 20), notFamilies(t)...) {
		f = roomyFamily(f)
		before := familyWithRoom(f)
		for range 6 {
			askHeirs(f, chanceCustom(r), r.IntN(len(f.People)+2)-1, chanceYear(r, f))
		}
		expect(t, familyWithRoom(f), before, "a family and the room behind it")
	}
}

// TestP13HeirsResultsAreNew writes into all results.
func TestP13HeirsResultsAreNew(t *testing.T) {
	eachCase(t, 209, func(f impl.Family, x impl.Custom, p int, year int, label string) {
		before := fmt.Sprint(f)
		lists, all := askHeirs(f, x, p, year)
		want := fmt.Sprint(lists)
		expect(t, writeLists(lists), true, "results that share no memory, for %s", label)
		holders, shares := impl.HoldersOf(f, x, p), impl.SharesOf(f, p, year)
		clear(holders[:cap(holders)])
		clear(shares[:cap(shares)])
		again, allAgain := askHeirs(f, x, p, year)
		expect(t, fmt.Sprint(again), want, "the lists of %s after others were changed", label)
		expect(t, allAgain, all, "the answers of %s after others were changed", label)
		expect(t, fmt.Sprint(f), before, "the family after the results were changed")
	})
}

func TestP13HeirsAreTheSameEachTime(t *testing.T) {
	eachCase(t, 210, func(f impl.Family, x impl.Custom, p int, year int, label string) {
		lists, all := askHeirs(f, x, p, year)
		again, allAgain := askHeirs(roomyFamily(f), x, p, year)
		expect(t, again, lists, "the lists of %s", label)
		expect(t, allAgain, all, "the answers of %s", label)
	})
}

// junkCustom is sometimes a custom.
func junkCustom(r *rand.Rand) impl.Custom {
	x := chanceCustom(r)
	if r.IntN(3) == 0 {
		list := notCustoms()
		x = list[r.IntN(len(list))]
	}
	return x
}

// TestP13HeirsNoPanic gives functions families, customs, persons and years that are far from valid.
func TestP13HeirsNoPanic(t *testing.T) {
	r := newChance(211)
	count := map[bool]int{}
	for range 4000 {
		f, x := junkFamily(r), junkCustom(r)
		if r.IntN(2) == 0 {
			f = withDeaths(r, f)
		}
		p, year := r.IntN(len(f.People)+2)-1, chanceYear(r, f)
		expect(t, impl.IsCustom(x), wantCustom(x), "IsCustom %v", x)
		expect(t, impl.FormatCustom(x), wantCustomText(x), "FormatCustom %v", x)
		valid := wantFamily(f) && p >= 0 && p < len(f.People)
		if !valid {
			checkNoEstate(t, f, p, year, "not valid")
		}
		known := valid && wantCustom(x)
		count[known]++
		if !known {
			checkNoHeirs(t, f, x, p, year, "not valid")
			continue
		}
		expect(t, impl.SuccessionOrder(f, x, p, year), wantSuccession(f, x, p, year), "SuccessionOrder %v %v %d %d", f, x, p, year)
		expect(t, impl.HoldersOf(f, x, p), wantHolders(f, x, p), "HoldersOf %v %v %d", f, x, p)
		expect(t, impl.SharesOf(f, p, year), wantShares(f, p, year), "SharesOf %v %d %d", f, p, year)
	}
	if count[true] < 500 || count[false] < 500 {
		t.Errorf("known or not: %v", count)
	}
}
