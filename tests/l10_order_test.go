package tests

import (
	"fmt"
	"slices"
	"testing"

	"loop.example/g03221/impl"
)

// askHeirs returns the lists of persons that chapter 11 has for a person, and what else it says.
func askHeirs(f impl.Family, x impl.Custom, p int, year int) ([][]int, string) {
	lists := [][]int{impl.OrderChildren(f, x, p), impl.HeirsBelow(f, x, p, year), impl.SuccessionOrder(f, x, p, year)}
	heir, ok := impl.HeirOf(f, x, p, year)
	return lists, fmt.Sprint(heir, ok, impl.HoldersOf(f, x, p), impl.SharesOf(f, p, year), impl.IsCustom(x), impl.FormatCustom(x))
}

func TestP2NamesDoNotMatterForHeirs(t *testing.T) {
	eachCase(t, 205, func(f impl.Family, x impl.Custom, p int, year int, label string) {
		g, ok := impl.RenamePeople(f, otherNames(len(f.People)))
		if !ok {
			t.Fatalf("RenamePeople refuses %v", f)
		}
		lists, all := askHeirs(f, x, p, year)
		otherLists, otherAll := askHeirs(g, x, p, year)
		expect(t, otherLists, lists, "the lists of %s under other names", label)
		expect(t, otherAll, all, "what is said of %s under other names", label)
	})
}

// TestP2UnionsDoNotMatterForHeirs: succession and shares follow from parents and years alone.
func TestP2UnionsDoNotMatterForHeirs(t *testing.T) {
	eachCase(t, 206, func(f impl.Family, x impl.Custom, p int, year int, label string) {
		lists, all := askHeirs(f, x, p, year)
		f.Unions = nil
		otherLists, otherAll := askHeirs(f, x, p, year)
		expect(t, otherLists, lists, "the lists of %s without unions", label)
		expect(t, otherAll, all, "what is said of %s without unions", label)
	})
}

func movedPeople(list []int, places []int) []int {
	moved := []int{}
	for _, p := range list {
		moved = append(moved, places[p])
	}
	return moved
}

func movedShares(list []impl.Share, places []int) []impl.Share {
	moved := []impl.Share{}
	for _, s := range list {
		moved = append(moved, impl.Share{Person: places[s.Person], Num: s.Num, Den: s.Den})
	}
	slices.SortFunc(moved, func(a, b impl.Share) int { return a.Person - b.Person })
	return moved
}

// TestP2OrderDoesNotMatterForHeirs: in another order, the same persons inherit, and follow each other as before if no two are born in one year.
func TestP2OrderDoesNotMatterForHeirs(t *testing.T) {
	r := newChance(207)
	for _, f := range successionFamilies(t, r, 20) {
		g := withDeaths(r, spreadBirths(f))
		for _, spread := range []bool{false, true} {
			if spread {
				f = g
			}
			order := parentsFirst(r, f)
			g, ok := impl.PermutePeople(f, order)
			if !ok {
				t.Fatalf("PermutePeople refuses %v for %v", order, f)
			}
			places := impl.InversePermutation(order)
			for range 4 * min(1, len(f.People)) {
				x, p, year := chanceCustom(r), r.IntN(len(f.People)), chanceYear(r, f)
				label := fmt.Sprintf("%v for %v, %d in %d, in the order %v", f, x, p, year, order)
				expect(t, impl.SharesOf(g, places[p], year), movedShares(impl.SharesOf(f, p, year), places), "SharesOf %s", label)
				checkMovedHeirs(t, f, g, x, p, year, places, spread, label)
			}
		}
	}
}

// checkMovedHeirs: if no two persons are born in one year, the lists are in the same order, and otherwise they have the same persons.
func checkMovedHeirs(t *testing.T, f impl.Family, g impl.Family, x impl.Custom, p int, year int, places []int, exact bool, label string) {
	t.Helper()
	lists, _ := askHeirs(f, x, p, year)
	moved, _ := askHeirs(g, x, places[p], year)
	for i, list := range lists {
		want := movedPeople(list, places)
		if !exact {
			slices.Sort(want)
			slices.Sort(moved[i])
		}
		expect(t, moved[i], want, "the list %d of %s", i, label)
	}
	if !exact {
		return
	}
	heir, ok := impl.HeirOf(f, x, p, year)
	movedHeir, alsoOk := impl.HeirOf(g, x, places[p], year)
	expect(t, alsoOk, ok, "HeirOf %s succeeds", label)
	if ok {
		expect(t, movedHeir, places[heir], "HeirOf %s", label)
	}
	holders := impl.HoldersOf(f, x, p)
	for i := range holders {
		holders[i].Person = places[holders[i].Person]
	}
	expect(t, impl.HoldersOf(g, x, places[p]), holders, "HoldersOf %s", label)
}
